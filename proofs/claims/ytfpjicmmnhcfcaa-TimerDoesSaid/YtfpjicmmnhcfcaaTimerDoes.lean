/-
  In every script each answer, and what is due, in order, are the document's; a nil row answers nothing.
  The walk is the prover's own; the frame of the row's step follows the kit's template.
-/
import Derived.Test.YtfpjicmmnhcfcaaRows
import Derived.Test.YtfpjicmmnhcfcaaLawKit
import Derived.Test.YtfpjicmmnhcfcaaFlat
import Derived.Test.YtfpjicmmnhcfcaaTrG
import Derived.Test.YtfpjicmmnhcfcaaTrD
import Derived.Deep.RegionHeld3
import Derived.LoopTactic
import Derived.Deep.CutBlock
namespace Go.Proofs.Ytfpjicmmnhcfcaa.timerDoes
open Go.ChangeShapes Go.WideShapes Go.ChangeAt Go.RowKit Go.ChangeMaps Go.WideElems
set_option linter.unusedVariables false

theorem cells0 {W : World} {vs : List Value} (h : Fit W [.int .i64, .int .i64, .int .i64] vs) : ∃ (s0 : Int) (s1 : Int) (s2 : Int), vs = [.int .i64 s0, .int .i64 s1, .int .i64 s2] ∧ (Lit.int .i64 s0).wf = true ∧ (Lit.int .i64 s1).wf = true ∧ (Lit.int .i64 s2).wf = true := by
  match vs, h.length, h with
  | [y0, y1, y2], _, h =>
    obtain ⟨⟨x0, rfl, h0⟩, ⟨x1, rfl, h1⟩, ⟨x2, rfl, h2⟩, _⟩ := h
    exact ⟨x0, x1, x2, rfl, h0, h1, h2⟩
theorem own : ownKnob Try.prog.godebug = none := by kernel_rfl
/-- Behind so many calls. -/
def Tied (gx gm : Nat) (w : World) (k : Nat) (wr : World) : Prop :=
  ∃ (L : List (Int × Int)) (M : List One3) (T : Int) (v v2 : Value), Tm wr w.heap.size gx v L ∧ Rr wr w.heap.size gm v2 M T ∧ Rel L M T ∧ 0 ≤ T ∧ T ≤ k ∧ Below w.heap.size w wr
set_option linter.unusedSimpArgs false in
set_option maxHeartbeats 8000000 in
set_option maxRecDepth 100000 in
theorem walk (A0 : Option Addr) (n0 c0 : Nat) (f0 : Nat → List Value) (w : World) (w0 : FlatRow w [.int .i64, .int .i64, .int .i64] A0 n0 c0 f0) :
    Calls Try.prog 3 #[.slice A0 n0 c0] w fun e w' => e = .returned (.bool true) ∧ Below w.heap.size w w' := by
  by_cases h200 : 200 < n0
  · go_enter Try.func3, Try.ntmps3
    go_wp2_with (first
      | ((go_at_call 7; refine (alive_yes _).mono ?_; rintro e w1 ⟨rfl, hb1⟩)))
    go_ret
    exact ⟨rfl, hb1⟩
  have R := Lib.hid w0
  have hmx := w0.max
  have hcap := w0.cap_le
  unfold maxLen at hmx
  clear w0
  go_enter Try.func3, Try.ntmps3
  go_wp2_with (first
    | ((go_at_call 7; refine (alive_yes _).mono ?_; rintro e w1 ⟨rfl, hb1⟩)))
  have hTx := Tm.new w1 (B := w.heap.size) hb1.size
  have hbx := hb1.alloc hb1.size (.cells #[.slice none 0 0] 26)
  have hm := Holds.new (w1.alloc (.cells #[.slice none 0 0] 26)) 31 #[.slice none 0 0, .int .i64 0]
  have hTx2 := hTx.below (below_alloc _ (.cells #[.slice none 0 0, .int .i64 0] 31))
  rw [size_alloc] at hm
  have hbm := hbx.alloc hbx.size (.cells #[.slice none 0 0, .int .i64 0] 31)
  obtain ⟨gx, hgx⟩ : ∃ gx, w1.heap.size = gx := ⟨_, rfl⟩
  obtain ⟨gm, hgm⟩ : ∃ gm, gx + 1 = gm := ⟨_, rfl⟩
  have hwx : w.heap.size ≤ gx := by rw [← hgx]; exact hb1.size
  have hxm : gx < gm := by omega
  have hTied : Tied gx gm w 0 ((w1.alloc (.cells #[.slice none 0 0] 26)).alloc (.cells #[.slice none 0 0, .int .i64 0] 31)) := by
    rw [hgx] at hTx2 hm
    rw [hgm] at hm
    exact ⟨[], [], 0, _, _, hTx2, ⟨by omega, by decide, none, 0, rfl, hm, World.ownsRow_nil _ _ _ _⟩, Rel.nil 0, by omega, by omega, hbm⟩
  simp only [hgx, hgm]
  have HTi := Lib.hid hTied
  clear hTied hTx hTx2 hbx hm hbm hgx hgm hb1
  go_loopw [22] (fun i wr => ∃ k : Nat, k ≤ n0 ∧ i = .int .i64 k ∧ Tied gx gm w k wr) (fun i _ => n0 - (intOf i).toNat)
  case atStart => exact ⟨0, Nat.zero_le _, rfl, HTi.out⟩
  case round =>
    obtain ⟨k, hk, rfl, L, M, T, v, v2, hT, hR, hrel, hT0, hTk, hb⟩ := hrel
    clear HTi
    by_cases hlt : k < n0
    · obtain ⟨b, off, rfl, hb', hc⟩ := (R.out.below hb).at 3 rfl hlt
      obtain ⟨s0, s1, s2, hf, hw0, hw1, hw2⟩ := cells0 (R.out.fit k hlt)
      have q0 : wr.cell? ⟨b, off + k * 3, none⟩ = some (.int .i64 s0) := hc 0 _ (by rw [hf]; rfl)
      have q1 : wr.cell? ⟨b, off + k * 3 + 1, none⟩ = some (.int .i64 s1) := hc 1 _ (by rw [hf]; rfl)
      have q2 : wr.cell? ⟨b, off + k * 3 + 2, none⟩ = some (.int .i64 s2) := hc 2 _ (by rw [hf]; rfl)
      clear hc hf
      have hba := below_alloc wr (.cells #[.int .i64 s0, .int .i64 s1, .int .i64 s2] 33)
      have hb1' := below_drewN hba 1
      have HT1 := Lib.hid (hT.below hb1')
      have HR1 := Lib.hid (hR.below hb1')
      have HB1 := Lib.hid (hb.trans (hb1'.mono hb.size))
      have HO1 := Lib.hid ((Holds.new wr 33 #[.int .i64 s0, .int .i64 s1, .int .i64 s2]).drewN 1)
      have hL16 := hT.2.1.2.1
      have HRel := Lib.hid hrel
      have HGood := Lib.hid hT.2.1
      clear hb1' hba hT hR hrel hb
      by_cases hkind : s0 = 0 ∨ s0 = 1
      · obtain ⟨hE, hrel'⟩ := tied_set HRel.out hL16 s1 s2
        have hset := fun W (h : Tm W w.heap.size gx v L) => set_any W w.heap.size gx v L s1 s2 h hw2
        have hrset := fun W (h : Rr W w.heap.size gm v2 M T) => rset_any W w.heap.size gm v2 M T s1 s2 h hT0 (by omega)
        have hTb := rsetT_le (what := s2) (M := M) (T := T)
        unfold Given at hset
        unfold Rset at hrset
        simp only [hE] at hset
        obtain ⟨V, hV⟩ : ∃ V, rsetE s2 M = V := ⟨_, rfl⟩
        obtain ⟨L6, hL6⟩ : ∃ L6, setL s1 s2 L = L6 := ⟨_, rfl⟩
        obtain ⟨M6, hM6⟩ : ∃ M6, rsetM s1 s2 M T = M6 := ⟨_, rfl⟩
        obtain ⟨T6, hT6⟩ : ∃ T6, rsetT s2 M T = T6 := ⟨_, rfl⟩
        simp only [hV, hL6] at hset
        simp only [hV, hM6, hT6] at hrset
        rw [hL6, hM6, hT6] at hrel'
        rw [hT6] at hTb
        have HRel6 := Lib.hid hrel'
        have hT60 : 0 ≤ T6 := by omega
        have hT6k : T6 ≤ ((k + 1 : Nat) : Int) := by omega
        clear hE hrel' hV hL6 hM6 hT6 hTb
        rcases hkind with rfl | rfl
        · go_upto_region 23 with fail
          refine region_turns (fun (w' : World) => w'.cell? ⟨wr.heap.size, 1, none⟩ = some (.int .i64 s1) ∧ w'.cell? ⟨wr.heap.size, 2, none⟩ = some (.int .i64 s2)) (fun j => decide (12 ≤ j)) (by kernel_rfl) (⟨HO1.out.cell 1, HO1.out.cell 2⟩) (fun hS => ?_)
          refine Turns.take hS 0 _ rfl (by kernel_rfl) (by kernel_rfl) (by kernel_rfl) (by kernel_rfl) (fun _ _ _ h => h) (by rfl) (fun w' hS' => by (try dsimp only at hS'); go_split_ands; go_simp; (try with_reducible rfl)) ?_
          simp only [Act.put, List.getElem_toArray, List.getElem_cons_succ, List.getElem_cons_zero, List.setIfInBounds_toArray, List.set_cons_zero, List.set_cons_succ]
          refine Turns.take hS 1 _ rfl (by kernel_rfl) (by kernel_rfl) (by kernel_rfl) (by kernel_rfl) (fun _ _ _ h => h) (by rfl) (fun w' hS' => by (try dsimp only at hS'); go_split_ands; go_simp; (try with_reducible rfl)) ?_
          simp only [Act.put, List.getElem_toArray, List.getElem_cons_succ, List.getElem_cons_zero, List.setIfInBounds_toArray, List.set_cons_zero, List.set_cons_succ]
          refine Turns.take hS 2 _ rfl (by kernel_rfl) (by kernel_rfl) (by kernel_rfl) (by kernel_rfl) (fun _ _ _ h => h) (by rfl) (fun w' hS' => by (try dsimp only at hS'); go_split_ands; go_simp; (try with_reducible rfl)) ?_
          simp only [Act.put, List.getElem_toArray, List.getElem_cons_succ, List.getElem_cons_zero, List.setIfInBounds_toArray, List.set_cons_zero, List.set_cons_succ]
          refine Turns.take hS 3 _ rfl (by kernel_rfl) (by kernel_rfl) (by kernel_rfl) (by kernel_rfl) (fun _ _ _ h => h) (by rfl) (fun w' hS' => by (try dsimp only at hS'); go_split_ands; go_simp; (try with_reducible rfl)) ?_
          simp only [Act.put, List.getElem_toArray, List.getElem_cons_succ, List.getElem_cons_zero, List.setIfInBounds_toArray, List.set_cons_zero, List.set_cons_succ]
          refine Turns.take hS 5 _ rfl (by kernel_rfl) (by kernel_rfl) (by kernel_rfl) (by kernel_rfl) (fun _ _ _ h => h) (by rfl) (fun w' hS' => by (try dsimp only at hS'); go_split_ands; go_simp; (try with_reducible rfl)) ?_
          simp only [Act.put, List.getElem_toArray, List.getElem_cons_succ, List.getElem_cons_zero, List.setIfInBounds_toArray, List.set_cons_zero, List.set_cons_succ]
          refine Turns.take hS 6 _ rfl (by kernel_rfl) (by kernel_rfl) (by kernel_rfl) (by kernel_rfl) (fun _ _ _ h => h) (by rfl) (fun w' hS' => by (try dsimp only at hS'); go_split_ands; go_simp; (try with_reducible rfl)) ?_
          simp only [Act.put, List.getElem_toArray, List.getElem_cons_succ, List.getElem_cons_zero, List.setIfInBounds_toArray, List.set_cons_zero, List.set_cons_succ]
          refine Turns.take hS 7 _ rfl (by kernel_rfl) (by kernel_rfl) (by kernel_rfl) (by kernel_rfl) (fun _ _ _ h => h) (by rfl) (fun w' hS' => by (try dsimp only at hS'); go_split_ands; go_simp; (try with_reducible rfl)) ?_
          simp only [Act.put, List.getElem_toArray, List.getElem_cons_succ, List.getElem_cons_zero, List.setIfInBounds_toArray, List.set_cons_zero, List.set_cons_succ]
          refine Turns.take hS 8 _ rfl (by kernel_rfl) (by kernel_rfl) (by kernel_rfl) (by kernel_rfl) (fun _ _ _ h => h) (by rfl) (fun w' hS' => by (try dsimp only at hS'); go_split_ands; go_simp; (try with_reducible rfl)) ?_
          simp only [Act.put, List.getElem_toArray, List.getElem_cons_succ, List.getElem_cons_zero, List.setIfInBounds_toArray, List.set_cons_zero, List.set_cons_succ]
          refine Turns.take hS 9 _ rfl (by kernel_rfl) (by kernel_rfl) (by kernel_rfl) (by kernel_rfl) (fun _ _ _ h => h) (by rfl) (fun w' hS' => by (try dsimp only at hS'); go_split_ands; go_simp; (try with_reducible rfl)) ?_
          simp only [Act.put, List.getElem_toArray, List.getElem_cons_succ, List.getElem_cons_zero, List.setIfInBounds_toArray, List.set_cons_zero, List.set_cons_succ]
          refine Turns.next 4 rfl (by kernel_rfl) (by rfl) (fun K hK => ?_)
          go_simp
          refine (hset _ HT1.out).mono ?_
          rintro e w5 ⟨rfl, hn5⟩
          have hb5 := hn5.below HT1.out HB1.out (Nat.le_refl _) HB1.out.size
          obtain ⟨v6, hT5, hc5, _⟩ := hn5
          have HR5 := Lib.hid (HR1.out.beside HT1.out hc5)
          have HO5 := Lib.hid (HO1.out.chg hc5 (HT1.out.apart HO1.out (by decide) (by decide)))
          have HT5 := Lib.hid hT5
          have HB5 := Lib.hid hb5
          clear hb5 hT5 hc5
          refine hK.out _ _ (show (fun (w' : World) => w'.cell? ⟨wr.heap.size, 1, none⟩ = some (.int .i64 s1) ∧ w'.cell? ⟨wr.heap.size, 2, none⟩ = some (.int .i64 s2)) _ from ⟨HO5.out.cell 1, HO5.out.cell 2⟩) ?_
          clear hK K hS
          have hS := (show (fun (w' : World) => w'.cell? ⟨wr.heap.size, 1, none⟩ = some (.int .i64 s1) ∧ w'.cell? ⟨wr.heap.size, 2, none⟩ = some (.int .i64 s2)) _ from ⟨HO5.out.cell 1, HO5.out.cell 2⟩)
          refine Turns.next 10 rfl (by kernel_rfl) (by rfl) (fun K hK => ?_)
          go_simp
          refine (hrset _ HR5.out).mono ?_
          rintro e W6 ⟨rfl, v26, hR6, hc6, _⟩
          have HT6 := Lib.hid (HT5.out.beside HR5.out hc6)
          have HO6' := Lib.hid (HO5.out.chg hc6 (fun e => HO5.out.apart HR5.out.2.2.choose_spec.choose_spec.2.1 (by decide) e))
          have HB6 := Lib.hid (Below.chg HB5.out hc6 HB5.out.size (fun k hk => by have := HR5.out.1; omega))
          have HR6 := Lib.hid hR6
          clear hR6 hc6
          refine hK.out _ _ (show (fun (w' : World) => w'.cell? ⟨wr.heap.size, 1, none⟩ = some (.int .i64 s1) ∧ w'.cell? ⟨wr.heap.size, 2, none⟩ = some (.int .i64 s2)) _ from ⟨HO6'.out.cell 1, HO6'.out.cell 2⟩) ?_
          clear hK K hS
          have hS := (show (fun (w' : World) => w'.cell? ⟨wr.heap.size, 1, none⟩ = some (.int .i64 s1) ∧ w'.cell? ⟨wr.heap.size, 2, none⟩ = some (.int .i64 s2)) _ from ⟨HO6'.out.cell 1, HO6'.out.cell 2⟩)
          refine Turns.take hS 11 _ rfl (by kernel_rfl) (by kernel_rfl) (by kernel_rfl) (by kernel_rfl) (fun _ _ _ h => h) (by rfl) (fun w' hS' => by (try dsimp only at hS'); go_split_ands; go_simp; (try with_reducible rfl)) ?_
          simp only [Act.put, List.getElem_toArray, List.getElem_cons_succ, List.getElem_cons_zero, List.setIfInBounds_toArray, List.set_cons_zero, List.set_cons_succ]
          refine Turns.rest (late_done (by kernel_rfl)) ?_
          refine any_tail 12 (by rfl) (by kernel_rfl) ?_
          simp only [List.drop_succ_cons, List.drop_zero]
          clear hS
          clear hset hrset
          go_upto_region 28 with fail
          obtain ⟨_, _, A6, c6, rfl, hh6, ho6⟩ := HR6.out
          have hlen6 := HRel6.out.len
          have h616 := HR6.out.2.1
          have HH6 := Lib.hid hh6
          have HO6 := Lib.hid ho6
          have hln : Calls Try.prog 14 #[.pointer (some ⟨gx, 0, none⟩)] W6.drew fun e w' => e = .returned (.int .i64 M6.length) ∧ W6.drew = w' := by
            rw [← hlen6]
            exact len_any W6.drew w.heap.size gx v6 L6 (HT6.out.below (below_drewN (Below.refl _ _) 1))
          obtain ⟨A7, c7, W7, hcp, ho7, hb7⟩ := copy_ones W6.drew w.heap.size A6 c6 M6 (HO6.out.below (below_drewN (Below.refl _ _) 1)) h616
          have HO7 := Lib.hid ho7
          have HB7 := Lib.hid hb7
          have hsame := same_any W7 w.heap.size gx W6.drew.heap.size v6 L6 A7 c7 M6 T6 ((HT6.out.below (below_drewN (Below.refl _ _) 1)).below hb7) ho7 hb7.size h616 HRel6.out
          clear hh6 ho6 hlen6 ho7 hb7
          refine region_turns (fun (w' : World) => w'.cell? ⟨gm, 0, none⟩ = some (.slice A6 M6.length c6)) (fun j => decide (18 ≤ j)) (by kernel_rfl) (HH6.out.cell 0) (fun hS => ?_)
          refine Turns.take hS 1 _ rfl (by kernel_rfl) (by kernel_rfl) (by kernel_rfl) (by kernel_rfl) (fun _ _ _ h => h) (by rfl) (fun w' hS' => by (try dsimp only at hS'); go_split_ands; go_simp; (try with_reducible rfl)) ?_
          simp only [Act.put, List.getElem_toArray, List.getElem_cons_succ, List.getElem_cons_zero, List.setIfInBounds_toArray, List.set_cons_zero, List.set_cons_succ]
          refine Turns.take hS 2 _ rfl (by kernel_rfl) (by kernel_rfl) (by kernel_rfl) (by kernel_rfl) (fun _ _ _ h => h) (by rfl) (fun w' hS' => by (try dsimp only at hS'); go_split_ands; go_simp; (try with_reducible rfl)) ?_
          simp only [Act.put, List.getElem_toArray, List.getElem_cons_succ, List.getElem_cons_zero, List.setIfInBounds_toArray, List.set_cons_zero, List.set_cons_succ]
          refine Turns.take hS 3 _ rfl (by kernel_rfl) (by kernel_rfl) (by kernel_rfl) (by kernel_rfl) (fun _ _ _ h => h) (by rfl) (fun w' hS' => by (try dsimp only at hS'); go_split_ands; go_simp; (try with_reducible rfl)) ?_
          simp only [Act.put, List.getElem_toArray, List.getElem_cons_succ, List.getElem_cons_zero, List.setIfInBounds_toArray, List.set_cons_zero, List.set_cons_succ]
          refine Turns.take hS 4 _ rfl (by kernel_rfl) (by kernel_rfl) (by kernel_rfl) (by kernel_rfl) (fun _ _ _ h => h) (by rfl) (fun w' hS' => by (try dsimp only at hS'); go_split_ands; go_simp; (try with_reducible rfl)) ?_
          simp only [Act.put, List.getElem_toArray, List.getElem_cons_succ, List.getElem_cons_zero, List.setIfInBounds_toArray, List.set_cons_zero, List.set_cons_succ]
          refine Turns.take hS 5 _ rfl (by kernel_rfl) (by kernel_rfl) (by kernel_rfl) (by kernel_rfl) (fun _ _ _ h => h) (by rfl) (fun w' hS' => by (try dsimp only at hS'); go_split_ands; go_simp; (try with_reducible rfl)) ?_
          simp only [Act.put, List.getElem_toArray, List.getElem_cons_succ, List.getElem_cons_zero, List.setIfInBounds_toArray, List.set_cons_zero, List.set_cons_succ]
          refine Turns.next 0 rfl (by kernel_rfl) (by rfl) (fun K hK => ?_)
          go_simp
          refine hln.mono ?_
          rintro e w' ⟨rfl, rfl⟩
          refine hK.out _ _ (show (fun (w' : World) => w'.cell? ⟨gm, 0, none⟩ = some (.slice A6 M6.length c6)) _ from HH6.out.cell 0) ?_
          clear hK K hS
          have hS := (show (fun (w' : World) => w'.cell? ⟨gm, 0, none⟩ = some (.slice A6 M6.length c6)) _ from HH6.out.cell 0)
          refine Turns.take hS 6 _ rfl (by kernel_rfl) (by kernel_rfl) (by kernel_rfl) (by kernel_rfl) (fun _ _ _ h => h) (by rfl) (fun w' hS' => by (try dsimp only at hS'); go_split_ands; go_simp; (try with_reducible rfl)) ?_
          simp only [Act.put, List.getElem_toArray, List.getElem_cons_succ, List.getElem_cons_zero, List.setIfInBounds_toArray, List.set_cons_zero, List.set_cons_succ]
          refine Turns.take hS 7 _ rfl (by kernel_rfl) (by kernel_rfl) (by kernel_rfl) (by kernel_rfl) (fun _ _ _ h => h) (by rfl) (fun w' hS' => by (try dsimp only at hS'); go_split_ands; go_simp; (try with_reducible rfl)) ?_
          simp only [Act.put, List.getElem_toArray, List.getElem_cons_succ, List.getElem_cons_zero, List.setIfInBounds_toArray, List.set_cons_zero, List.set_cons_succ]
          refine Turns.take hS 9 _ rfl (by kernel_rfl) (by kernel_rfl) (by kernel_rfl) (by kernel_rfl) (fun _ _ _ h => h) (by rfl) (fun w' hS' => by (try dsimp only at hS'); go_split_ands; go_simp; (try with_reducible rfl)) ?_
          simp only [Act.put, List.getElem_toArray, List.getElem_cons_succ, List.getElem_cons_zero, List.setIfInBounds_toArray, List.set_cons_zero, List.set_cons_succ]
          refine Turns.take hS 10 _ rfl (by kernel_rfl) (by kernel_rfl) (by kernel_rfl) (by kernel_rfl) (fun _ _ _ h => h) (by rfl) (fun w' hS' => by (try dsimp only at hS'); go_split_ands; go_simp; (try with_reducible rfl)) ?_
          simp only [Act.put, List.getElem_toArray, List.getElem_cons_succ, List.getElem_cons_zero, List.setIfInBounds_toArray, List.set_cons_zero, List.set_cons_succ]
          refine Turns.take hS 11 _ rfl (by kernel_rfl) (by kernel_rfl) (by kernel_rfl) (by kernel_rfl) (fun _ _ _ h => h) (by rfl) (fun w' hS' => by (try dsimp only at hS'); go_split_ands; go_simp; (try with_reducible rfl)) ?_
          simp only [Act.put, List.getElem_toArray, List.getElem_cons_succ, List.getElem_cons_zero, List.setIfInBounds_toArray, List.set_cons_zero, List.set_cons_succ]
          refine Turns.take hS 12 _ rfl (by kernel_rfl) (by kernel_rfl) (by kernel_rfl) (by kernel_rfl) (fun _ _ _ h => h) (by rfl) (fun w' hS' => by (try dsimp only at hS'); go_split_ands; go_simp; (try with_reducible rfl)) ?_
          simp only [Act.put, List.getElem_toArray, List.getElem_cons_succ, List.getElem_cons_zero, List.setIfInBounds_toArray, List.set_cons_zero, List.set_cons_succ]
          refine Turns.next 8 rfl (by kernel_rfl) (by rfl) (fun K hK => ?_)
          go_simp
          refine hK.out _ _ (show (fun (w' : World) => w'.cell? ⟨gm, 0, none⟩ = some (.slice A6 M6.length c6)) _ from (HH6.out.below (below_drewN (Below.refl _ _) 1) HH6.out.lt).alloc (.cells #[] 54) |>.cell 0) ?_
          clear hK K hS
          have hS := (show (fun (w' : World) => w'.cell? ⟨gm, 0, none⟩ = some (.slice A6 M6.length c6)) _ from (HH6.out.below (below_drewN (Below.refl _ _) 1) HH6.out.lt).alloc (.cells #[] 54) |>.cell 0)
          refine Turns.next 13 rfl (by kernel_rfl) (by rfl) (fun K hK => ?_)
          refine Lib.wp_append_run _ (.tmp 88) (.tmp 92) 29 29 rfl _ _ (by simp [Act.eval, Act.put]) (by simp [Act.eval, Act.put]) _ _ hcp ?_
          have k7 := (HH6.out.below (below_drewN (Below.refl _ _) 1) HH6.out.lt).below HB7.out HH6.out.lt
          refine hK.out _ _ (show (fun (w' : World) => w'.cell? ⟨gm, 0, none⟩ = some (.slice A6 M6.length c6)) _ from k7.cell 0) ?_
          clear hK K hS
          have hS := (show (fun (w' : World) => w'.cell? ⟨gm, 0, none⟩ = some (.slice A6 M6.length c6)) _ from k7.cell 0)
          refine Turns.take hS 14 _ rfl (by kernel_rfl) (by kernel_rfl) (by kernel_rfl) (by kernel_rfl) (fun _ _ _ h => h) (by rfl) (fun w' hS' => by (try dsimp only at hS'); go_split_ands; go_simp; (try with_reducible rfl)) ?_
          simp only [Act.put, List.getElem_toArray, List.getElem_cons_succ, List.getElem_cons_zero, List.setIfInBounds_toArray, List.set_cons_zero, List.set_cons_succ]
          refine Turns.next 15 rfl (by kernel_rfl) (by rfl) (fun K hK => ?_)
          go_simp
          refine hsame.mono ?_
          rintro e w8 ⟨rfl, hb8⟩
          have k8 := k7.below hb8 k7.lt
          refine hK.out _ _ (show (fun (w' : World) => w'.cell? ⟨gm, 0, none⟩ = some (.slice A6 M6.length c6)) _ from k8.cell 0) ?_
          clear hK K hS
          have hS := (show (fun (w' : World) => w'.cell? ⟨gm, 0, none⟩ = some (.slice A6 M6.length c6)) _ from k8.cell 0)
          refine Turns.take hS 16 _ rfl (by kernel_rfl) (by kernel_rfl) (by kernel_rfl) (by kernel_rfl) (fun _ _ _ h => h) (by rfl) (fun w' hS' => by (try dsimp only at hS'); go_split_ands; go_simp; (try with_reducible rfl)) ?_
          simp only [Act.put, List.getElem_toArray, List.getElem_cons_succ, List.getElem_cons_zero, List.setIfInBounds_toArray, List.set_cons_zero, List.set_cons_succ]
          refine Turns.take hS 17 _ rfl (by kernel_rfl) (by kernel_rfl) (by kernel_rfl) (by kernel_rfl) (fun _ _ _ h => h) (by rfl) (fun w' hS' => by (try dsimp only at hS'); go_split_ands; go_simp; (try with_reducible rfl)) ?_
          simp only [Act.put, List.getElem_toArray, List.getElem_cons_succ, List.getElem_cons_zero, List.setIfInBounds_toArray, List.set_cons_zero, List.set_cons_succ]
          refine Turns.rest (late_done (by kernel_rfl)) ?_
          refine any_tail 18 (by rfl) (by kernel_rfl) ?_
          simp only [List.drop_succ_cons, List.drop_zero]
          clear hS
          have hb68 : Below W6.heap.size W6 w8 := by
            have h1 := below_drewN (Below.refl W6.heap.size W6) 1
            exact (h1.trans (HB7.out.mono h1.size)).trans (hb8.mono (Nat.le_trans h1.size HB7.out.size))
          have HTied : Hid (Tied gx gm w (k + 1) w8) := ⟨L6, M6, T6, v6, _, HT6.out.below hb68, HR6.out.below hb68, HRel6.out, hT60, hT6k, HB6.out.trans (hb68.mono HB6.out.size)⟩
          clear hb68 hcp hsame hln
          go_wp2
          go_roundw
          case rel => exact ⟨k + 1, by omega, by go_num, HTied.out⟩
          case measure => simp [intOf]; omega
        · go_upto_region 23 with fail
          refine region_turns (fun (w' : World) => w'.cell? ⟨wr.heap.size, 1, none⟩ = some (.int .i64 s1) ∧ w'.cell? ⟨wr.heap.size, 2, none⟩ = some (.int .i64 s2)) (fun j => decide (12 ≤ j)) (by kernel_rfl) (⟨HO1.out.cell 1, HO1.out.cell 2⟩) (fun hS => ?_)
          refine Turns.take hS 0 _ rfl (by kernel_rfl) (by kernel_rfl) (by kernel_rfl) (by kernel_rfl) (fun _ _ _ h => h) (by rfl) (fun w' hS' => by (try dsimp only at hS'); go_split_ands; go_simp; (try with_reducible rfl)) ?_
          simp only [Act.put, List.getElem_toArray, List.getElem_cons_succ, List.getElem_cons_zero, List.setIfInBounds_toArray, List.set_cons_zero, List.set_cons_succ]
          refine Turns.take hS 1 _ rfl (by kernel_rfl) (by kernel_rfl) (by kernel_rfl) (by kernel_rfl) (fun _ _ _ h => h) (by rfl) (fun w' hS' => by (try dsimp only at hS'); go_split_ands; go_simp; (try with_reducible rfl)) ?_
          simp only [Act.put, List.getElem_toArray, List.getElem_cons_succ, List.getElem_cons_zero, List.setIfInBounds_toArray, List.set_cons_zero, List.set_cons_succ]
          refine Turns.take hS 2 _ rfl (by kernel_rfl) (by kernel_rfl) (by kernel_rfl) (by kernel_rfl) (fun _ _ _ h => h) (by rfl) (fun w' hS' => by (try dsimp only at hS'); go_split_ands; go_simp; (try with_reducible rfl)) ?_
          simp only [Act.put, List.getElem_toArray, List.getElem_cons_succ, List.getElem_cons_zero, List.setIfInBounds_toArray, List.set_cons_zero, List.set_cons_succ]
          refine Turns.take hS 3 _ rfl (by kernel_rfl) (by kernel_rfl) (by kernel_rfl) (by kernel_rfl) (fun _ _ _ h => h) (by rfl) (fun w' hS' => by (try dsimp only at hS'); go_split_ands; go_simp; (try with_reducible rfl)) ?_
          simp only [Act.put, List.getElem_toArray, List.getElem_cons_succ, List.getElem_cons_zero, List.setIfInBounds_toArray, List.set_cons_zero, List.set_cons_succ]
          refine Turns.take hS 5 _ rfl (by kernel_rfl) (by kernel_rfl) (by kernel_rfl) (by kernel_rfl) (fun _ _ _ h => h) (by rfl) (fun w' hS' => by (try dsimp only at hS'); go_split_ands; go_simp; (try with_reducible rfl)) ?_
          simp only [Act.put, List.getElem_toArray, List.getElem_cons_succ, List.getElem_cons_zero, List.setIfInBounds_toArray, List.set_cons_zero, List.set_cons_succ]
          refine Turns.take hS 6 _ rfl (by kernel_rfl) (by kernel_rfl) (by kernel_rfl) (by kernel_rfl) (fun _ _ _ h => h) (by rfl) (fun w' hS' => by (try dsimp only at hS'); go_split_ands; go_simp; (try with_reducible rfl)) ?_
          simp only [Act.put, List.getElem_toArray, List.getElem_cons_succ, List.getElem_cons_zero, List.setIfInBounds_toArray, List.set_cons_zero, List.set_cons_succ]
          refine Turns.take hS 7 _ rfl (by kernel_rfl) (by kernel_rfl) (by kernel_rfl) (by kernel_rfl) (fun _ _ _ h => h) (by rfl) (fun w' hS' => by (try dsimp only at hS'); go_split_ands; go_simp; (try with_reducible rfl)) ?_
          simp only [Act.put, List.getElem_toArray, List.getElem_cons_succ, List.getElem_cons_zero, List.setIfInBounds_toArray, List.set_cons_zero, List.set_cons_succ]
          refine Turns.take hS 8 _ rfl (by kernel_rfl) (by kernel_rfl) (by kernel_rfl) (by kernel_rfl) (fun _ _ _ h => h) (by rfl) (fun w' hS' => by (try dsimp only at hS'); go_split_ands; go_simp; (try with_reducible rfl)) ?_
          simp only [Act.put, List.getElem_toArray, List.getElem_cons_succ, List.getElem_cons_zero, List.setIfInBounds_toArray, List.set_cons_zero, List.set_cons_succ]
          refine Turns.take hS 9 _ rfl (by kernel_rfl) (by kernel_rfl) (by kernel_rfl) (by kernel_rfl) (fun _ _ _ h => h) (by rfl) (fun w' hS' => by (try dsimp only at hS'); go_split_ands; go_simp; (try with_reducible rfl)) ?_
          simp only [Act.put, List.getElem_toArray, List.getElem_cons_succ, List.getElem_cons_zero, List.setIfInBounds_toArray, List.set_cons_zero, List.set_cons_succ]
          refine Turns.next 4 rfl (by kernel_rfl) (by rfl) (fun K hK => ?_)
          go_simp
          refine (hset _ HT1.out).mono ?_
          rintro e w5 ⟨rfl, hn5⟩
          have hb5 := hn5.below HT1.out HB1.out (Nat.le_refl _) HB1.out.size
          obtain ⟨v6, hT5, hc5, _⟩ := hn5
          have HR5 := Lib.hid (HR1.out.beside HT1.out hc5)
          have HO5 := Lib.hid (HO1.out.chg hc5 (HT1.out.apart HO1.out (by decide) (by decide)))
          have HT5 := Lib.hid hT5
          have HB5 := Lib.hid hb5
          clear hb5 hT5 hc5
          refine hK.out _ _ (show (fun (w' : World) => w'.cell? ⟨wr.heap.size, 1, none⟩ = some (.int .i64 s1) ∧ w'.cell? ⟨wr.heap.size, 2, none⟩ = some (.int .i64 s2)) _ from ⟨HO5.out.cell 1, HO5.out.cell 2⟩) ?_
          clear hK K hS
          have hS := (show (fun (w' : World) => w'.cell? ⟨wr.heap.size, 1, none⟩ = some (.int .i64 s1) ∧ w'.cell? ⟨wr.heap.size, 2, none⟩ = some (.int .i64 s2)) _ from ⟨HO5.out.cell 1, HO5.out.cell 2⟩)
          refine Turns.next 10 rfl (by kernel_rfl) (by rfl) (fun K hK => ?_)
          go_simp
          refine (hrset _ HR5.out).mono ?_
          rintro e W6 ⟨rfl, v26, hR6, hc6, _⟩
          have HT6 := Lib.hid (HT5.out.beside HR5.out hc6)
          have HO6' := Lib.hid (HO5.out.chg hc6 (fun e => HO5.out.apart HR5.out.2.2.choose_spec.choose_spec.2.1 (by decide) e))
          have HB6 := Lib.hid (Below.chg HB5.out hc6 HB5.out.size (fun k hk => by have := HR5.out.1; omega))
          have HR6 := Lib.hid hR6
          clear hR6 hc6
          refine hK.out _ _ (show (fun (w' : World) => w'.cell? ⟨wr.heap.size, 1, none⟩ = some (.int .i64 s1) ∧ w'.cell? ⟨wr.heap.size, 2, none⟩ = some (.int .i64 s2)) _ from ⟨HO6'.out.cell 1, HO6'.out.cell 2⟩) ?_
          clear hK K hS
          have hS := (show (fun (w' : World) => w'.cell? ⟨wr.heap.size, 1, none⟩ = some (.int .i64 s1) ∧ w'.cell? ⟨wr.heap.size, 2, none⟩ = some (.int .i64 s2)) _ from ⟨HO6'.out.cell 1, HO6'.out.cell 2⟩)
          refine Turns.take hS 11 _ rfl (by kernel_rfl) (by kernel_rfl) (by kernel_rfl) (by kernel_rfl) (fun _ _ _ h => h) (by rfl) (fun w' hS' => by (try dsimp only at hS'); go_split_ands; go_simp; (try with_reducible rfl)) ?_
          simp only [Act.put, List.getElem_toArray, List.getElem_cons_succ, List.getElem_cons_zero, List.setIfInBounds_toArray, List.set_cons_zero, List.set_cons_succ]
          refine Turns.rest (late_done (by kernel_rfl)) ?_
          refine any_tail 12 (by rfl) (by kernel_rfl) ?_
          simp only [List.drop_succ_cons, List.drop_zero]
          clear hS
          clear hset hrset
          go_upto_region 28 with fail
          obtain ⟨_, _, A6, c6, rfl, hh6, ho6⟩ := HR6.out
          have hlen6 := HRel6.out.len
          have h616 := HR6.out.2.1
          have HH6 := Lib.hid hh6
          have HO6 := Lib.hid ho6
          have hln : Calls Try.prog 14 #[.pointer (some ⟨gx, 0, none⟩)] W6.drew fun e w' => e = .returned (.int .i64 M6.length) ∧ W6.drew = w' := by
            rw [← hlen6]
            exact len_any W6.drew w.heap.size gx v6 L6 (HT6.out.below (below_drewN (Below.refl _ _) 1))
          obtain ⟨A7, c7, W7, hcp, ho7, hb7⟩ := copy_ones W6.drew w.heap.size A6 c6 M6 (HO6.out.below (below_drewN (Below.refl _ _) 1)) h616
          have HO7 := Lib.hid ho7
          have HB7 := Lib.hid hb7
          have hsame := same_any W7 w.heap.size gx W6.drew.heap.size v6 L6 A7 c7 M6 T6 ((HT6.out.below (below_drewN (Below.refl _ _) 1)).below hb7) ho7 hb7.size h616 HRel6.out
          clear hh6 ho6 hlen6 ho7 hb7
          refine region_turns (fun (w' : World) => w'.cell? ⟨gm, 0, none⟩ = some (.slice A6 M6.length c6)) (fun j => decide (18 ≤ j)) (by kernel_rfl) (HH6.out.cell 0) (fun hS => ?_)
          refine Turns.take hS 1 _ rfl (by kernel_rfl) (by kernel_rfl) (by kernel_rfl) (by kernel_rfl) (fun _ _ _ h => h) (by rfl) (fun w' hS' => by (try dsimp only at hS'); go_split_ands; go_simp; (try with_reducible rfl)) ?_
          simp only [Act.put, List.getElem_toArray, List.getElem_cons_succ, List.getElem_cons_zero, List.setIfInBounds_toArray, List.set_cons_zero, List.set_cons_succ]
          refine Turns.take hS 2 _ rfl (by kernel_rfl) (by kernel_rfl) (by kernel_rfl) (by kernel_rfl) (fun _ _ _ h => h) (by rfl) (fun w' hS' => by (try dsimp only at hS'); go_split_ands; go_simp; (try with_reducible rfl)) ?_
          simp only [Act.put, List.getElem_toArray, List.getElem_cons_succ, List.getElem_cons_zero, List.setIfInBounds_toArray, List.set_cons_zero, List.set_cons_succ]
          refine Turns.take hS 3 _ rfl (by kernel_rfl) (by kernel_rfl) (by kernel_rfl) (by kernel_rfl) (fun _ _ _ h => h) (by rfl) (fun w' hS' => by (try dsimp only at hS'); go_split_ands; go_simp; (try with_reducible rfl)) ?_
          simp only [Act.put, List.getElem_toArray, List.getElem_cons_succ, List.getElem_cons_zero, List.setIfInBounds_toArray, List.set_cons_zero, List.set_cons_succ]
          refine Turns.take hS 4 _ rfl (by kernel_rfl) (by kernel_rfl) (by kernel_rfl) (by kernel_rfl) (fun _ _ _ h => h) (by rfl) (fun w' hS' => by (try dsimp only at hS'); go_split_ands; go_simp; (try with_reducible rfl)) ?_
          simp only [Act.put, List.getElem_toArray, List.getElem_cons_succ, List.getElem_cons_zero, List.setIfInBounds_toArray, List.set_cons_zero, List.set_cons_succ]
          refine Turns.take hS 5 _ rfl (by kernel_rfl) (by kernel_rfl) (by kernel_rfl) (by kernel_rfl) (fun _ _ _ h => h) (by rfl) (fun w' hS' => by (try dsimp only at hS'); go_split_ands; go_simp; (try with_reducible rfl)) ?_
          simp only [Act.put, List.getElem_toArray, List.getElem_cons_succ, List.getElem_cons_zero, List.setIfInBounds_toArray, List.set_cons_zero, List.set_cons_succ]
          refine Turns.next 0 rfl (by kernel_rfl) (by rfl) (fun K hK => ?_)
          go_simp
          refine hln.mono ?_
          rintro e w' ⟨rfl, rfl⟩
          refine hK.out _ _ (show (fun (w' : World) => w'.cell? ⟨gm, 0, none⟩ = some (.slice A6 M6.length c6)) _ from HH6.out.cell 0) ?_
          clear hK K hS
          have hS := (show (fun (w' : World) => w'.cell? ⟨gm, 0, none⟩ = some (.slice A6 M6.length c6)) _ from HH6.out.cell 0)
          refine Turns.take hS 6 _ rfl (by kernel_rfl) (by kernel_rfl) (by kernel_rfl) (by kernel_rfl) (fun _ _ _ h => h) (by rfl) (fun w' hS' => by (try dsimp only at hS'); go_split_ands; go_simp; (try with_reducible rfl)) ?_
          simp only [Act.put, List.getElem_toArray, List.getElem_cons_succ, List.getElem_cons_zero, List.setIfInBounds_toArray, List.set_cons_zero, List.set_cons_succ]
          refine Turns.take hS 7 _ rfl (by kernel_rfl) (by kernel_rfl) (by kernel_rfl) (by kernel_rfl) (fun _ _ _ h => h) (by rfl) (fun w' hS' => by (try dsimp only at hS'); go_split_ands; go_simp; (try with_reducible rfl)) ?_
          simp only [Act.put, List.getElem_toArray, List.getElem_cons_succ, List.getElem_cons_zero, List.setIfInBounds_toArray, List.set_cons_zero, List.set_cons_succ]
          refine Turns.take hS 9 _ rfl (by kernel_rfl) (by kernel_rfl) (by kernel_rfl) (by kernel_rfl) (fun _ _ _ h => h) (by rfl) (fun w' hS' => by (try dsimp only at hS'); go_split_ands; go_simp; (try with_reducible rfl)) ?_
          simp only [Act.put, List.getElem_toArray, List.getElem_cons_succ, List.getElem_cons_zero, List.setIfInBounds_toArray, List.set_cons_zero, List.set_cons_succ]
          refine Turns.take hS 10 _ rfl (by kernel_rfl) (by kernel_rfl) (by kernel_rfl) (by kernel_rfl) (fun _ _ _ h => h) (by rfl) (fun w' hS' => by (try dsimp only at hS'); go_split_ands; go_simp; (try with_reducible rfl)) ?_
          simp only [Act.put, List.getElem_toArray, List.getElem_cons_succ, List.getElem_cons_zero, List.setIfInBounds_toArray, List.set_cons_zero, List.set_cons_succ]
          refine Turns.take hS 11 _ rfl (by kernel_rfl) (by kernel_rfl) (by kernel_rfl) (by kernel_rfl) (fun _ _ _ h => h) (by rfl) (fun w' hS' => by (try dsimp only at hS'); go_split_ands; go_simp; (try with_reducible rfl)) ?_
          simp only [Act.put, List.getElem_toArray, List.getElem_cons_succ, List.getElem_cons_zero, List.setIfInBounds_toArray, List.set_cons_zero, List.set_cons_succ]
          refine Turns.take hS 12 _ rfl (by kernel_rfl) (by kernel_rfl) (by kernel_rfl) (by kernel_rfl) (fun _ _ _ h => h) (by rfl) (fun w' hS' => by (try dsimp only at hS'); go_split_ands; go_simp; (try with_reducible rfl)) ?_
          simp only [Act.put, List.getElem_toArray, List.getElem_cons_succ, List.getElem_cons_zero, List.setIfInBounds_toArray, List.set_cons_zero, List.set_cons_succ]
          refine Turns.next 8 rfl (by kernel_rfl) (by rfl) (fun K hK => ?_)
          go_simp
          refine hK.out _ _ (show (fun (w' : World) => w'.cell? ⟨gm, 0, none⟩ = some (.slice A6 M6.length c6)) _ from (HH6.out.below (below_drewN (Below.refl _ _) 1) HH6.out.lt).alloc (.cells #[] 54) |>.cell 0) ?_
          clear hK K hS
          have hS := (show (fun (w' : World) => w'.cell? ⟨gm, 0, none⟩ = some (.slice A6 M6.length c6)) _ from (HH6.out.below (below_drewN (Below.refl _ _) 1) HH6.out.lt).alloc (.cells #[] 54) |>.cell 0)
          refine Turns.next 13 rfl (by kernel_rfl) (by rfl) (fun K hK => ?_)
          refine Lib.wp_append_run _ (.tmp 88) (.tmp 92) 29 29 rfl _ _ (by simp [Act.eval, Act.put]) (by simp [Act.eval, Act.put]) _ _ hcp ?_
          have k7 := (HH6.out.below (below_drewN (Below.refl _ _) 1) HH6.out.lt).below HB7.out HH6.out.lt
          refine hK.out _ _ (show (fun (w' : World) => w'.cell? ⟨gm, 0, none⟩ = some (.slice A6 M6.length c6)) _ from k7.cell 0) ?_
          clear hK K hS
          have hS := (show (fun (w' : World) => w'.cell? ⟨gm, 0, none⟩ = some (.slice A6 M6.length c6)) _ from k7.cell 0)
          refine Turns.take hS 14 _ rfl (by kernel_rfl) (by kernel_rfl) (by kernel_rfl) (by kernel_rfl) (fun _ _ _ h => h) (by rfl) (fun w' hS' => by (try dsimp only at hS'); go_split_ands; go_simp; (try with_reducible rfl)) ?_
          simp only [Act.put, List.getElem_toArray, List.getElem_cons_succ, List.getElem_cons_zero, List.setIfInBounds_toArray, List.set_cons_zero, List.set_cons_succ]
          refine Turns.next 15 rfl (by kernel_rfl) (by rfl) (fun K hK => ?_)
          go_simp
          refine hsame.mono ?_
          rintro e w8 ⟨rfl, hb8⟩
          have k8 := k7.below hb8 k7.lt
          refine hK.out _ _ (show (fun (w' : World) => w'.cell? ⟨gm, 0, none⟩ = some (.slice A6 M6.length c6)) _ from k8.cell 0) ?_
          clear hK K hS
          have hS := (show (fun (w' : World) => w'.cell? ⟨gm, 0, none⟩ = some (.slice A6 M6.length c6)) _ from k8.cell 0)
          refine Turns.take hS 16 _ rfl (by kernel_rfl) (by kernel_rfl) (by kernel_rfl) (by kernel_rfl) (fun _ _ _ h => h) (by rfl) (fun w' hS' => by (try dsimp only at hS'); go_split_ands; go_simp; (try with_reducible rfl)) ?_
          simp only [Act.put, List.getElem_toArray, List.getElem_cons_succ, List.getElem_cons_zero, List.setIfInBounds_toArray, List.set_cons_zero, List.set_cons_succ]
          refine Turns.take hS 17 _ rfl (by kernel_rfl) (by kernel_rfl) (by kernel_rfl) (by kernel_rfl) (fun _ _ _ h => h) (by rfl) (fun w' hS' => by (try dsimp only at hS'); go_split_ands; go_simp; (try with_reducible rfl)) ?_
          simp only [Act.put, List.getElem_toArray, List.getElem_cons_succ, List.getElem_cons_zero, List.setIfInBounds_toArray, List.set_cons_zero, List.set_cons_succ]
          refine Turns.rest (late_done (by kernel_rfl)) ?_
          refine any_tail 18 (by rfl) (by kernel_rfl) ?_
          simp only [List.drop_succ_cons, List.drop_zero]
          clear hS
          have hb68 : Below W6.heap.size W6 w8 := by
            have h1 := below_drewN (Below.refl W6.heap.size W6) 1
            exact (h1.trans (HB7.out.mono h1.size)).trans (hb8.mono (Nat.le_trans h1.size HB7.out.size))
          have HTied : Hid (Tied gx gm w (k + 1) w8) := ⟨L6, M6, T6, v6, _, HT6.out.below hb68, HR6.out.below hb68, HRel6.out, hT60, hT6k, HB6.out.trans (hb68.mono HB6.out.size)⟩
          clear hb68 hcp hsame hln
          go_wp2
          go_roundw
          case rel => exact ⟨k + 1, by omega, by go_num, HTied.out⟩
          case measure => simp [intOf]; omega
      · by_cases hk2 : s0 = 2
        · subst hk2
          have hans := HRel.out.has s2
          have hrel' := HRel.out.drop s2
          have hdrop := fun W (h : Tm W w.heap.size gx v L) => drop_any W w.heap.size gx v L s2 h
          have hrdrop := fun W (h : Rr W w.heap.size gm v2 M T) => rdrop_any W w.heap.size gm v2 M T s2 h
          unfold Dropped at hdrop
          simp only [hans] at hrdrop
          obtain ⟨V, hV⟩ : ∃ V, hasB s2 L = V := ⟨_, rfl⟩
          obtain ⟨L6, hL6⟩ : ∃ L6, dropL s2 L = L6 := ⟨_, rfl⟩
          obtain ⟨M6, hM6⟩ : ∃ M6, othersM s2 M = M6 := ⟨_, rfl⟩
          obtain ⟨T6, hT6⟩ : ∃ T6, T = T6 := ⟨_, rfl⟩
          simp only [hV, hL6] at hdrop
          simp only [hV, hM6, hT6] at hrdrop
          rw [hL6, hM6, hT6] at hrel'
          rw [hT6] at HR1
          have HRel6 := Lib.hid hrel'
          have hT60 : 0 ≤ T6 := by omega
          have hT6k : T6 ≤ ((k + 1 : Nat) : Int) := by omega
          clear hans hrel' hV hL6 hM6 hT6 hkind
          go_upto_region 26 with fail
          refine region_turns (fun (w' : World) => w'.cell? ⟨wr.heap.size, 2, none⟩ = some (.int .i64 s2)) (fun j => decide (8 ≤ j)) (by kernel_rfl) (HO1.out.cell 2) (fun hS => ?_)
          refine Turns.take hS 0 _ rfl (by kernel_rfl) (by kernel_rfl) (by kernel_rfl) (by kernel_rfl) (fun _ _ _ h => h) (by rfl) (fun w' hS' => by (try dsimp only at hS'); go_split_ands; go_simp; (try with_reducible rfl)) ?_
          simp only [Act.put, List.getElem_toArray, List.getElem_cons_succ, List.getElem_cons_zero, List.setIfInBounds_toArray, List.set_cons_zero, List.set_cons_succ]
          refine Turns.take hS 1 _ rfl (by kernel_rfl) (by kernel_rfl) (by kernel_rfl) (by kernel_rfl) (fun _ _ _ h => h) (by rfl) (fun w' hS' => by (try dsimp only at hS'); go_split_ands; go_simp; (try with_reducible rfl)) ?_
          simp only [Act.put, List.getElem_toArray, List.getElem_cons_succ, List.getElem_cons_zero, List.setIfInBounds_toArray, List.set_cons_zero, List.set_cons_succ]
          refine Turns.take hS 3 _ rfl (by kernel_rfl) (by kernel_rfl) (by kernel_rfl) (by kernel_rfl) (fun _ _ _ h => h) (by rfl) (fun w' hS' => by (try dsimp only at hS'); go_split_ands; go_simp; (try with_reducible rfl)) ?_
          simp only [Act.put, List.getElem_toArray, List.getElem_cons_succ, List.getElem_cons_zero, List.setIfInBounds_toArray, List.set_cons_zero, List.set_cons_succ]
          refine Turns.take hS 4 _ rfl (by kernel_rfl) (by kernel_rfl) (by kernel_rfl) (by kernel_rfl) (fun _ _ _ h => h) (by rfl) (fun w' hS' => by (try dsimp only at hS'); go_split_ands; go_simp; (try with_reducible rfl)) ?_
          simp only [Act.put, List.getElem_toArray, List.getElem_cons_succ, List.getElem_cons_zero, List.setIfInBounds_toArray, List.set_cons_zero, List.set_cons_succ]
          refine Turns.take hS 5 _ rfl (by kernel_rfl) (by kernel_rfl) (by kernel_rfl) (by kernel_rfl) (fun _ _ _ h => h) (by rfl) (fun w' hS' => by (try dsimp only at hS'); go_split_ands; go_simp; (try with_reducible rfl)) ?_
          simp only [Act.put, List.getElem_toArray, List.getElem_cons_succ, List.getElem_cons_zero, List.setIfInBounds_toArray, List.set_cons_zero, List.set_cons_succ]
          refine Turns.next 2 rfl (by kernel_rfl) (by rfl) (fun K hK => ?_)
          go_simp
          refine (hdrop _ HT1.out).mono ?_
          rintro e w5 ⟨rfl, hn5⟩
          have hb5 := hn5.below HT1.out HB1.out (Nat.le_refl _) HB1.out.size
          obtain ⟨v6, hT5, hc5, _⟩ := hn5
          have HR5 := Lib.hid (HR1.out.beside HT1.out hc5)
          have HO5 := Lib.hid (HO1.out.chg hc5 (HT1.out.apart HO1.out (by decide) (by decide)))
          have HT5 := Lib.hid hT5
          have HB5 := Lib.hid hb5
          clear hb5 hT5 hc5
          refine hK.out _ _ (show (fun (w' : World) => w'.cell? ⟨wr.heap.size, 2, none⟩ = some (.int .i64 s2)) _ from HO5.out.cell 2) ?_
          clear hK K hS
          have hS := (show (fun (w' : World) => w'.cell? ⟨wr.heap.size, 2, none⟩ = some (.int .i64 s2)) _ from HO5.out.cell 2)
          refine Turns.next 6 rfl (by kernel_rfl) (by rfl) (fun K hK => ?_)
          go_simp
          refine (hrdrop _ HR5.out).mono ?_
          rintro e W6 ⟨rfl, v26, hR6, hc6, _⟩
          have HT6 := Lib.hid (HT5.out.beside HR5.out hc6)
          have HO6' := Lib.hid (HO5.out.chg hc6 (fun e => HO5.out.apart HR5.out.2.2.choose_spec.choose_spec.2.1 (by decide) e))
          have HB6 := Lib.hid (Below.chg HB5.out hc6 HB5.out.size (fun k hk => by have := HR5.out.1; omega))
          have HR6 := Lib.hid hR6
          clear hR6 hc6
          refine hK.out _ _ (show (fun (w' : World) => w'.cell? ⟨wr.heap.size, 2, none⟩ = some (.int .i64 s2)) _ from HO6'.out.cell 2) ?_
          clear hK K hS
          have hS := (show (fun (w' : World) => w'.cell? ⟨wr.heap.size, 2, none⟩ = some (.int .i64 s2)) _ from HO6'.out.cell 2)
          refine Turns.take hS 7 _ rfl (by kernel_rfl) (by kernel_rfl) (by kernel_rfl) (by kernel_rfl) (fun _ _ _ h => h) (by rfl) (fun w' hS' => by (try dsimp only at hS'); go_split_ands; go_simp; (try with_reducible rfl)) ?_
          simp only [Act.put, List.getElem_toArray, List.getElem_cons_succ, List.getElem_cons_zero, List.setIfInBounds_toArray, List.set_cons_zero, List.set_cons_succ]
          refine Turns.rest (late_done (by kernel_rfl)) ?_
          refine any_tail 8 (by rfl) (by kernel_rfl) ?_
          simp only [List.drop_succ_cons, List.drop_zero]
          clear hS
          clear hdrop hrdrop
          go_upto_region 28 with fail
          obtain ⟨_, _, A6, c6, rfl, hh6, ho6⟩ := HR6.out
          have hlen6 := HRel6.out.len
          have h616 := HR6.out.2.1
          have HH6 := Lib.hid hh6
          have HO6 := Lib.hid ho6
          have hln : Calls Try.prog 14 #[.pointer (some ⟨gx, 0, none⟩)] W6.drew fun e w' => e = .returned (.int .i64 M6.length) ∧ W6.drew = w' := by
            rw [← hlen6]
            exact len_any W6.drew w.heap.size gx v6 L6 (HT6.out.below (below_drewN (Below.refl _ _) 1))
          obtain ⟨A7, c7, W7, hcp, ho7, hb7⟩ := copy_ones W6.drew w.heap.size A6 c6 M6 (HO6.out.below (below_drewN (Below.refl _ _) 1)) h616
          have HO7 := Lib.hid ho7
          have HB7 := Lib.hid hb7
          have hsame := same_any W7 w.heap.size gx W6.drew.heap.size v6 L6 A7 c7 M6 T6 ((HT6.out.below (below_drewN (Below.refl _ _) 1)).below hb7) ho7 hb7.size h616 HRel6.out
          clear hh6 ho6 hlen6 ho7 hb7
          refine region_turns (fun (w' : World) => w'.cell? ⟨gm, 0, none⟩ = some (.slice A6 M6.length c6)) (fun j => decide (18 ≤ j)) (by kernel_rfl) (HH6.out.cell 0) (fun hS => ?_)
          refine Turns.take hS 1 _ rfl (by kernel_rfl) (by kernel_rfl) (by kernel_rfl) (by kernel_rfl) (fun _ _ _ h => h) (by rfl) (fun w' hS' => by (try dsimp only at hS'); go_split_ands; go_simp; (try with_reducible rfl)) ?_
          simp only [Act.put, List.getElem_toArray, List.getElem_cons_succ, List.getElem_cons_zero, List.setIfInBounds_toArray, List.set_cons_zero, List.set_cons_succ]
          refine Turns.take hS 2 _ rfl (by kernel_rfl) (by kernel_rfl) (by kernel_rfl) (by kernel_rfl) (fun _ _ _ h => h) (by rfl) (fun w' hS' => by (try dsimp only at hS'); go_split_ands; go_simp; (try with_reducible rfl)) ?_
          simp only [Act.put, List.getElem_toArray, List.getElem_cons_succ, List.getElem_cons_zero, List.setIfInBounds_toArray, List.set_cons_zero, List.set_cons_succ]
          refine Turns.take hS 3 _ rfl (by kernel_rfl) (by kernel_rfl) (by kernel_rfl) (by kernel_rfl) (fun _ _ _ h => h) (by rfl) (fun w' hS' => by (try dsimp only at hS'); go_split_ands; go_simp; (try with_reducible rfl)) ?_
          simp only [Act.put, List.getElem_toArray, List.getElem_cons_succ, List.getElem_cons_zero, List.setIfInBounds_toArray, List.set_cons_zero, List.set_cons_succ]
          refine Turns.take hS 4 _ rfl (by kernel_rfl) (by kernel_rfl) (by kernel_rfl) (by kernel_rfl) (fun _ _ _ h => h) (by rfl) (fun w' hS' => by (try dsimp only at hS'); go_split_ands; go_simp; (try with_reducible rfl)) ?_
          simp only [Act.put, List.getElem_toArray, List.getElem_cons_succ, List.getElem_cons_zero, List.setIfInBounds_toArray, List.set_cons_zero, List.set_cons_succ]
          refine Turns.take hS 5 _ rfl (by kernel_rfl) (by kernel_rfl) (by kernel_rfl) (by kernel_rfl) (fun _ _ _ h => h) (by rfl) (fun w' hS' => by (try dsimp only at hS'); go_split_ands; go_simp; (try with_reducible rfl)) ?_
          simp only [Act.put, List.getElem_toArray, List.getElem_cons_succ, List.getElem_cons_zero, List.setIfInBounds_toArray, List.set_cons_zero, List.set_cons_succ]
          refine Turns.next 0 rfl (by kernel_rfl) (by rfl) (fun K hK => ?_)
          go_simp
          refine hln.mono ?_
          rintro e w' ⟨rfl, rfl⟩
          refine hK.out _ _ (show (fun (w' : World) => w'.cell? ⟨gm, 0, none⟩ = some (.slice A6 M6.length c6)) _ from HH6.out.cell 0) ?_
          clear hK K hS
          have hS := (show (fun (w' : World) => w'.cell? ⟨gm, 0, none⟩ = some (.slice A6 M6.length c6)) _ from HH6.out.cell 0)
          refine Turns.take hS 6 _ rfl (by kernel_rfl) (by kernel_rfl) (by kernel_rfl) (by kernel_rfl) (fun _ _ _ h => h) (by rfl) (fun w' hS' => by (try dsimp only at hS'); go_split_ands; go_simp; (try with_reducible rfl)) ?_
          simp only [Act.put, List.getElem_toArray, List.getElem_cons_succ, List.getElem_cons_zero, List.setIfInBounds_toArray, List.set_cons_zero, List.set_cons_succ]
          refine Turns.take hS 7 _ rfl (by kernel_rfl) (by kernel_rfl) (by kernel_rfl) (by kernel_rfl) (fun _ _ _ h => h) (by rfl) (fun w' hS' => by (try dsimp only at hS'); go_split_ands; go_simp; (try with_reducible rfl)) ?_
          simp only [Act.put, List.getElem_toArray, List.getElem_cons_succ, List.getElem_cons_zero, List.setIfInBounds_toArray, List.set_cons_zero, List.set_cons_succ]
          refine Turns.take hS 9 _ rfl (by kernel_rfl) (by kernel_rfl) (by kernel_rfl) (by kernel_rfl) (fun _ _ _ h => h) (by rfl) (fun w' hS' => by (try dsimp only at hS'); go_split_ands; go_simp; (try with_reducible rfl)) ?_
          simp only [Act.put, List.getElem_toArray, List.getElem_cons_succ, List.getElem_cons_zero, List.setIfInBounds_toArray, List.set_cons_zero, List.set_cons_succ]
          refine Turns.take hS 10 _ rfl (by kernel_rfl) (by kernel_rfl) (by kernel_rfl) (by kernel_rfl) (fun _ _ _ h => h) (by rfl) (fun w' hS' => by (try dsimp only at hS'); go_split_ands; go_simp; (try with_reducible rfl)) ?_
          simp only [Act.put, List.getElem_toArray, List.getElem_cons_succ, List.getElem_cons_zero, List.setIfInBounds_toArray, List.set_cons_zero, List.set_cons_succ]
          refine Turns.take hS 11 _ rfl (by kernel_rfl) (by kernel_rfl) (by kernel_rfl) (by kernel_rfl) (fun _ _ _ h => h) (by rfl) (fun w' hS' => by (try dsimp only at hS'); go_split_ands; go_simp; (try with_reducible rfl)) ?_
          simp only [Act.put, List.getElem_toArray, List.getElem_cons_succ, List.getElem_cons_zero, List.setIfInBounds_toArray, List.set_cons_zero, List.set_cons_succ]
          refine Turns.take hS 12 _ rfl (by kernel_rfl) (by kernel_rfl) (by kernel_rfl) (by kernel_rfl) (fun _ _ _ h => h) (by rfl) (fun w' hS' => by (try dsimp only at hS'); go_split_ands; go_simp; (try with_reducible rfl)) ?_
          simp only [Act.put, List.getElem_toArray, List.getElem_cons_succ, List.getElem_cons_zero, List.setIfInBounds_toArray, List.set_cons_zero, List.set_cons_succ]
          refine Turns.next 8 rfl (by kernel_rfl) (by rfl) (fun K hK => ?_)
          go_simp
          refine hK.out _ _ (show (fun (w' : World) => w'.cell? ⟨gm, 0, none⟩ = some (.slice A6 M6.length c6)) _ from (HH6.out.below (below_drewN (Below.refl _ _) 1) HH6.out.lt).alloc (.cells #[] 54) |>.cell 0) ?_
          clear hK K hS
          have hS := (show (fun (w' : World) => w'.cell? ⟨gm, 0, none⟩ = some (.slice A6 M6.length c6)) _ from (HH6.out.below (below_drewN (Below.refl _ _) 1) HH6.out.lt).alloc (.cells #[] 54) |>.cell 0)
          refine Turns.next 13 rfl (by kernel_rfl) (by rfl) (fun K hK => ?_)
          refine Lib.wp_append_run _ (.tmp 88) (.tmp 92) 29 29 rfl _ _ (by simp [Act.eval, Act.put]) (by simp [Act.eval, Act.put]) _ _ hcp ?_
          have k7 := (HH6.out.below (below_drewN (Below.refl _ _) 1) HH6.out.lt).below HB7.out HH6.out.lt
          refine hK.out _ _ (show (fun (w' : World) => w'.cell? ⟨gm, 0, none⟩ = some (.slice A6 M6.length c6)) _ from k7.cell 0) ?_
          clear hK K hS
          have hS := (show (fun (w' : World) => w'.cell? ⟨gm, 0, none⟩ = some (.slice A6 M6.length c6)) _ from k7.cell 0)
          refine Turns.take hS 14 _ rfl (by kernel_rfl) (by kernel_rfl) (by kernel_rfl) (by kernel_rfl) (fun _ _ _ h => h) (by rfl) (fun w' hS' => by (try dsimp only at hS'); go_split_ands; go_simp; (try with_reducible rfl)) ?_
          simp only [Act.put, List.getElem_toArray, List.getElem_cons_succ, List.getElem_cons_zero, List.setIfInBounds_toArray, List.set_cons_zero, List.set_cons_succ]
          refine Turns.next 15 rfl (by kernel_rfl) (by rfl) (fun K hK => ?_)
          go_simp
          refine hsame.mono ?_
          rintro e w8 ⟨rfl, hb8⟩
          have k8 := k7.below hb8 k7.lt
          refine hK.out _ _ (show (fun (w' : World) => w'.cell? ⟨gm, 0, none⟩ = some (.slice A6 M6.length c6)) _ from k8.cell 0) ?_
          clear hK K hS
          have hS := (show (fun (w' : World) => w'.cell? ⟨gm, 0, none⟩ = some (.slice A6 M6.length c6)) _ from k8.cell 0)
          refine Turns.take hS 16 _ rfl (by kernel_rfl) (by kernel_rfl) (by kernel_rfl) (by kernel_rfl) (fun _ _ _ h => h) (by rfl) (fun w' hS' => by (try dsimp only at hS'); go_split_ands; go_simp; (try with_reducible rfl)) ?_
          simp only [Act.put, List.getElem_toArray, List.getElem_cons_succ, List.getElem_cons_zero, List.setIfInBounds_toArray, List.set_cons_zero, List.set_cons_succ]
          refine Turns.take hS 17 _ rfl (by kernel_rfl) (by kernel_rfl) (by kernel_rfl) (by kernel_rfl) (fun _ _ _ h => h) (by rfl) (fun w' hS' => by (try dsimp only at hS'); go_split_ands; go_simp; (try with_reducible rfl)) ?_
          simp only [Act.put, List.getElem_toArray, List.getElem_cons_succ, List.getElem_cons_zero, List.setIfInBounds_toArray, List.set_cons_zero, List.set_cons_succ]
          refine Turns.rest (late_done (by kernel_rfl)) ?_
          refine any_tail 18 (by rfl) (by kernel_rfl) ?_
          simp only [List.drop_succ_cons, List.drop_zero]
          clear hS
          have hb68 : Below W6.heap.size W6 w8 := by
            have h1 := below_drewN (Below.refl W6.heap.size W6) 1
            exact (h1.trans (HB7.out.mono h1.size)).trans (hb8.mono (Nat.le_trans h1.size HB7.out.size))
          have HTied : Hid (Tied gx gm w (k + 1) w8) := ⟨L6, M6, T6, v6, _, HT6.out.below hb68, HR6.out.below hb68, HRel6.out, hT60, hT6k, HB6.out.trans (hb68.mono HB6.out.size)⟩
          clear hb68 hcp hsame hln
          go_wp2
          go_roundw
          case rel => exact ⟨k + 1, by omega, by go_num, HTied.out⟩
          case measure => simp [intOf]; omega
        · have hn0 : (s0 == 0) = false := by rw [beq_eq_false_iff_ne]; omega
          have hn1 : (s0 == 1) = false := by rw [beq_eq_false_iff_ne]; omega
          have hn2 : (s0 == 2) = false := by rw [beq_eq_false_iff_ne]; omega
          have hdue := fun W (h : Tm W w.heap.size gx v L) => due_any W w.heap.size gx v L s1 h
          have hrdue := fun W (h : Rr W w.heap.size gm v2 M T) => rdue_any W w.heap.size gm v2 L M T s1 h HRel.out HGood.out
          have hwf := due_wf HGood.out s1
          have hul := upto_le s1 L
          unfold Fell at hdue
          unfold Rfell at hrdue
          obtain ⟨U, hU⟩ : ∃ U, upto s1 L = U := ⟨_, rfl⟩
          obtain ⟨D, hD⟩ : ∃ D, dueL s1 L = D := ⟨_, rfl⟩
          obtain ⟨L6, hL6⟩ : ∃ L6, restL s1 L = L6 := ⟨_, rfl⟩
          obtain ⟨T6, hT6⟩ : ∃ T6, T = T6 := ⟨_, rfl⟩
          simp only [hU, hD, hL6] at hdue
          simp only [hU, hD, hL6, hT6] at hrdue
          rw [hD] at hwf
          rw [hU] at hul
          rw [hT6] at HR1
          have HWf := Lib.hid hwf
          have hT60 : 0 ≤ T6 := by omega
          have hT6k : T6 ≤ ((k + 1 : Nat) : Int) := by omega
          have hU16 : U ≤ 16 := by omega
          clear hwf hU hD hL6 hT6 hkind hk2
          go_upto_region 12 with fail
          refine region_turns (fun (w' : World) => w'.cell? ⟨wr.heap.size, 1, none⟩ = some (.int .i64 s1)) (fun j => decide (9 ≤ j)) (by kernel_rfl) (HO1.out.cell 1) (fun hS => ?_)
          refine Turns.take hS 0 _ rfl (by kernel_rfl) (by kernel_rfl) (by kernel_rfl) (by kernel_rfl) (fun _ _ _ h => h) (by rfl) (fun w' hS' => by (try dsimp only at hS'); go_split_ands; go_simp; (try with_reducible rfl)) ?_
          simp only [Act.put, List.getElem_toArray, List.getElem_cons_succ, List.getElem_cons_zero, List.setIfInBounds_toArray, List.set_cons_zero, List.set_cons_succ]
          refine Turns.take hS 1 _ rfl (by kernel_rfl) (by kernel_rfl) (by kernel_rfl) (by kernel_rfl) (fun _ _ _ h => h) (by rfl) (fun w' hS' => by (try dsimp only at hS'); go_split_ands; go_simp; (try with_reducible rfl)) ?_
          simp only [Act.put, List.getElem_toArray, List.getElem_cons_succ, List.getElem_cons_zero, List.setIfInBounds_toArray, List.set_cons_zero, List.set_cons_succ]
          refine Turns.take hS 3 _ rfl (by kernel_rfl) (by kernel_rfl) (by kernel_rfl) (by kernel_rfl) (fun _ _ _ h => h) (by rfl) (fun w' hS' => by (try dsimp only at hS'); go_split_ands; go_simp; (try with_reducible rfl)) ?_
          simp only [Act.put, List.getElem_toArray, List.getElem_cons_succ, List.getElem_cons_zero, List.setIfInBounds_toArray, List.set_cons_zero, List.set_cons_succ]
          refine Turns.take hS 4 _ rfl (by kernel_rfl) (by kernel_rfl) (by kernel_rfl) (by kernel_rfl) (fun _ _ _ h => h) (by rfl) (fun w' hS' => by (try dsimp only at hS'); go_split_ands; go_simp; (try with_reducible rfl)) ?_
          simp only [Act.put, List.getElem_toArray, List.getElem_cons_succ, List.getElem_cons_zero, List.setIfInBounds_toArray, List.set_cons_zero, List.set_cons_succ]
          refine Turns.take hS 5 _ rfl (by kernel_rfl) (by kernel_rfl) (by kernel_rfl) (by kernel_rfl) (fun _ _ _ h => h) (by rfl) (fun w' hS' => by (try dsimp only at hS'); go_split_ands; go_simp; (try with_reducible rfl)) ?_
          simp only [Act.put, List.getElem_toArray, List.getElem_cons_succ, List.getElem_cons_zero, List.setIfInBounds_toArray, List.set_cons_zero, List.set_cons_succ]
          refine Turns.next 2 rfl (by kernel_rfl) (by rfl) (fun K hK => ?_)
          go_simp
          refine (hdue _ HT1.out).mono ?_
          rintro e w5 ⟨A5, c5, rfl, ho5, hn5⟩
          have hb5 := hn5.below HT1.out HB1.out (Nat.le_refl _) HB1.out.size
          obtain ⟨v6, hT5, hc5, _⟩ := hn5
          have HR5 := Lib.hid (HR1.out.beside HT1.out hc5)
          have HO5 := Lib.hid (HO1.out.chg hc5 (HT1.out.apart HO1.out (by decide) (by decide)))
          have HT5 := Lib.hid hT5
          have HB5 := Lib.hid hb5
          have HL5 := Lib.hid ho5
          clear hb5 hT5 hc5 ho5
          refine hK.out _ _ (show (fun (w' : World) => w'.cell? ⟨wr.heap.size, 1, none⟩ = some (.int .i64 s1)) _ from HO5.out.cell 1) ?_
          clear hK K hS
          have hS := (show (fun (w' : World) => w'.cell? ⟨wr.heap.size, 1, none⟩ = some (.int .i64 s1)) _ from HO5.out.cell 1)
          refine Turns.next 6 rfl (by kernel_rfl) (by rfl) (fun K hK => ?_)
          go_simp
          refine (hrdue _ HR5.out).mono ?_
          rintro e w6 ⟨A6', c6', M6, rfl, ho6, ⟨v26, hR6, hc6, _⟩, hrel6⟩
          have HT6' := Lib.hid (HT5.out.beside HR5.out hc6)
          have HO6' := Lib.hid (HO5.out.chg hc6 (fun e => HO5.out.apart HR5.out.2.2.choose_spec.choose_spec.2.1 (by decide) e))
          have HB6' := Lib.hid (Below.chg HB5.out hc6 HB5.out.size (fun k hk => by have := HR5.out.1; omega))
          have HR6' := Lib.hid hR6
          have HRel6 := Lib.hid hrel6
          have HLx := Lib.hid (IntRow.of_own (own_chg HL5.out hc6 (fun q hq => (HR5.out.list HL5.out hq).1)) HWf.out)
          have HLy := Lib.hid (IntRow.of_own ho6 HWf.out)
          clear hR6 hc6 hrel6 ho6
          refine hK.out _ _ (show (fun (w' : World) => w'.cell? ⟨wr.heap.size, 1, none⟩ = some (.int .i64 s1)) _ from HO6'.out.cell 1) ?_
          clear hK K hS
          have hS := (show (fun (w' : World) => w'.cell? ⟨wr.heap.size, 1, none⟩ = some (.int .i64 s1)) _ from HO6'.out.cell 1)
          refine Turns.take hS 7 _ rfl (by kernel_rfl) (by kernel_rfl) (by kernel_rfl) (by kernel_rfl) (fun _ _ _ h => h) (by rfl) (fun w' hS' => by (try dsimp only at hS'); go_split_ands; go_simp; (try with_reducible rfl)) ?_
          simp only [Act.put, List.getElem_toArray, List.getElem_cons_succ, List.getElem_cons_zero, List.setIfInBounds_toArray, List.set_cons_zero, List.set_cons_succ]
          refine Turns.take hS 8 _ rfl (by kernel_rfl) (by kernel_rfl) (by kernel_rfl) (by kernel_rfl) (fun _ _ _ h => h) (by rfl) (fun w' hS' => by (try dsimp only at hS'); go_split_ands; go_simp; (try with_reducible rfl)) ?_
          simp only [Act.put, List.getElem_toArray, List.getElem_cons_succ, List.getElem_cons_zero, List.setIfInBounds_toArray, List.set_cons_zero, List.set_cons_succ]
          refine Turns.rest (late_done (by kernel_rfl)) ?_
          refine any_tail 9 (by rfl) (by kernel_rfl) ?_
          simp only [List.drop_succ_cons, List.drop_zero]
          clear hS
          clear hdue hrdue
          go_wp2
          go_loopw [42] (fun y wt => ∃ j m : Nat, j ≤ U ∧ y = .int .i64 j ∧ wt = w6.drewN m) (fun y _ => U - (intOf y).toNat)
          case atStart => exact ⟨0, 0, Nat.zero_le _, rfl, rfl⟩
          case round =>
            obtain ⟨j, m, hj, rfl, rfl⟩ := hrel
            by_cases hjU : j < U
            · obtain ⟨bx, ox, rfl, _, hx⟩ := HLx.out.cell (by omega)
              obtain ⟨by', oy, rfl, _, hy⟩ := HLy.out.cell (by omega)
              have qx := hx j hjU
              have qy := hy j hjU
              obtain ⟨X, hX⟩ : ∃ X, D.getD j 0 = X := ⟨_, rfl⟩
              rw [hX] at qx qy
              have hj0 : (0 : Int) ≤ (j : Int) := by omega
              have hji : (j : Int) < (U : Int) := by omega
              clear hx hy hX
              go_upto_region 18 with fail
              go_quiet (fail)
              go_wp2
              go_roundw
              case rel => exact ⟨j + 1, _, by omega, by go_num, rfl⟩
              case measure => simp [intOf]; omega
            · obtain ⟨W6, hW6⟩ : ∃ W6, w6.drewN m = W6 := ⟨_, rfl⟩
              have hbm := below_drewN (Below.refl w6.heap.size w6) m
              have HT6 := Lib.hid (HT6'.out.below hbm)
              have HR6 := Lib.hid (HR6'.out.below hbm)
              have HB6 := Lib.hid (below_drewN HB6'.out m)
              rw [hW6] at HT6 HR6 HB6 ⊢
              clear hW6 hbm HLx HLy HT6' HR6' HB6'
              go_upto_region 28 with fail
              obtain ⟨_, _, A6, c6, rfl, hh6, ho6⟩ := HR6.out
              have hlen6 := HRel6.out.len
              have h616 := HR6.out.2.1
              have HH6 := Lib.hid hh6
              have HO6 := Lib.hid ho6
              have hln : Calls Try.prog 14 #[.pointer (some ⟨gx, 0, none⟩)] W6.drew fun e w' => e = .returned (.int .i64 M6.length) ∧ W6.drew = w' := by
                rw [← hlen6]
                exact len_any W6.drew w.heap.size gx v6 L6 (HT6.out.below (below_drewN (Below.refl _ _) 1))
              obtain ⟨A7, c7, W7, hcp, ho7, hb7⟩ := copy_ones W6.drew w.heap.size A6 c6 M6 (HO6.out.below (below_drewN (Below.refl _ _) 1)) h616
              have HO7 := Lib.hid ho7
              have HB7 := Lib.hid hb7
              have hsame := same_any W7 w.heap.size gx W6.drew.heap.size v6 L6 A7 c7 M6 T6 ((HT6.out.below (below_drewN (Below.refl _ _) 1)).below hb7) ho7 hb7.size h616 HRel6.out
              clear hh6 ho6 hlen6 ho7 hb7
              refine region_turns (fun (w' : World) => w'.cell? ⟨gm, 0, none⟩ = some (.slice A6 M6.length c6)) (fun j => decide (18 ≤ j)) (by kernel_rfl) (HH6.out.cell 0) (fun hS => ?_)
              refine Turns.take hS 1 _ rfl (by kernel_rfl) (by kernel_rfl) (by kernel_rfl) (by kernel_rfl) (fun _ _ _ h => h) (by rfl) (fun w' hS' => by (try dsimp only at hS'); go_split_ands; go_simp; (try with_reducible rfl)) ?_
              simp only [Act.put, List.getElem_toArray, List.getElem_cons_succ, List.getElem_cons_zero, List.setIfInBounds_toArray, List.set_cons_zero, List.set_cons_succ]
              refine Turns.take hS 2 _ rfl (by kernel_rfl) (by kernel_rfl) (by kernel_rfl) (by kernel_rfl) (fun _ _ _ h => h) (by rfl) (fun w' hS' => by (try dsimp only at hS'); go_split_ands; go_simp; (try with_reducible rfl)) ?_
              simp only [Act.put, List.getElem_toArray, List.getElem_cons_succ, List.getElem_cons_zero, List.setIfInBounds_toArray, List.set_cons_zero, List.set_cons_succ]
              refine Turns.take hS 3 _ rfl (by kernel_rfl) (by kernel_rfl) (by kernel_rfl) (by kernel_rfl) (fun _ _ _ h => h) (by rfl) (fun w' hS' => by (try dsimp only at hS'); go_split_ands; go_simp; (try with_reducible rfl)) ?_
              simp only [Act.put, List.getElem_toArray, List.getElem_cons_succ, List.getElem_cons_zero, List.setIfInBounds_toArray, List.set_cons_zero, List.set_cons_succ]
              refine Turns.take hS 4 _ rfl (by kernel_rfl) (by kernel_rfl) (by kernel_rfl) (by kernel_rfl) (fun _ _ _ h => h) (by rfl) (fun w' hS' => by (try dsimp only at hS'); go_split_ands; go_simp; (try with_reducible rfl)) ?_
              simp only [Act.put, List.getElem_toArray, List.getElem_cons_succ, List.getElem_cons_zero, List.setIfInBounds_toArray, List.set_cons_zero, List.set_cons_succ]
              refine Turns.take hS 5 _ rfl (by kernel_rfl) (by kernel_rfl) (by kernel_rfl) (by kernel_rfl) (fun _ _ _ h => h) (by rfl) (fun w' hS' => by (try dsimp only at hS'); go_split_ands; go_simp; (try with_reducible rfl)) ?_
              simp only [Act.put, List.getElem_toArray, List.getElem_cons_succ, List.getElem_cons_zero, List.setIfInBounds_toArray, List.set_cons_zero, List.set_cons_succ]
              refine Turns.next 0 rfl (by kernel_rfl) (by rfl) (fun K hK => ?_)
              go_simp
              refine hln.mono ?_
              rintro e w' ⟨rfl, rfl⟩
              refine hK.out _ _ (show (fun (w' : World) => w'.cell? ⟨gm, 0, none⟩ = some (.slice A6 M6.length c6)) _ from HH6.out.cell 0) ?_
              clear hK K hS
              have hS := (show (fun (w' : World) => w'.cell? ⟨gm, 0, none⟩ = some (.slice A6 M6.length c6)) _ from HH6.out.cell 0)
              refine Turns.take hS 6 _ rfl (by kernel_rfl) (by kernel_rfl) (by kernel_rfl) (by kernel_rfl) (fun _ _ _ h => h) (by rfl) (fun w' hS' => by (try dsimp only at hS'); go_split_ands; go_simp; (try with_reducible rfl)) ?_
              simp only [Act.put, List.getElem_toArray, List.getElem_cons_succ, List.getElem_cons_zero, List.setIfInBounds_toArray, List.set_cons_zero, List.set_cons_succ]
              refine Turns.take hS 7 _ rfl (by kernel_rfl) (by kernel_rfl) (by kernel_rfl) (by kernel_rfl) (fun _ _ _ h => h) (by rfl) (fun w' hS' => by (try dsimp only at hS'); go_split_ands; go_simp; (try with_reducible rfl)) ?_
              simp only [Act.put, List.getElem_toArray, List.getElem_cons_succ, List.getElem_cons_zero, List.setIfInBounds_toArray, List.set_cons_zero, List.set_cons_succ]
              refine Turns.take hS 9 _ rfl (by kernel_rfl) (by kernel_rfl) (by kernel_rfl) (by kernel_rfl) (fun _ _ _ h => h) (by rfl) (fun w' hS' => by (try dsimp only at hS'); go_split_ands; go_simp; (try with_reducible rfl)) ?_
              simp only [Act.put, List.getElem_toArray, List.getElem_cons_succ, List.getElem_cons_zero, List.setIfInBounds_toArray, List.set_cons_zero, List.set_cons_succ]
              refine Turns.take hS 10 _ rfl (by kernel_rfl) (by kernel_rfl) (by kernel_rfl) (by kernel_rfl) (fun _ _ _ h => h) (by rfl) (fun w' hS' => by (try dsimp only at hS'); go_split_ands; go_simp; (try with_reducible rfl)) ?_
              simp only [Act.put, List.getElem_toArray, List.getElem_cons_succ, List.getElem_cons_zero, List.setIfInBounds_toArray, List.set_cons_zero, List.set_cons_succ]
              refine Turns.take hS 11 _ rfl (by kernel_rfl) (by kernel_rfl) (by kernel_rfl) (by kernel_rfl) (fun _ _ _ h => h) (by rfl) (fun w' hS' => by (try dsimp only at hS'); go_split_ands; go_simp; (try with_reducible rfl)) ?_
              simp only [Act.put, List.getElem_toArray, List.getElem_cons_succ, List.getElem_cons_zero, List.setIfInBounds_toArray, List.set_cons_zero, List.set_cons_succ]
              refine Turns.take hS 12 _ rfl (by kernel_rfl) (by kernel_rfl) (by kernel_rfl) (by kernel_rfl) (fun _ _ _ h => h) (by rfl) (fun w' hS' => by (try dsimp only at hS'); go_split_ands; go_simp; (try with_reducible rfl)) ?_
              simp only [Act.put, List.getElem_toArray, List.getElem_cons_succ, List.getElem_cons_zero, List.setIfInBounds_toArray, List.set_cons_zero, List.set_cons_succ]
              refine Turns.next 8 rfl (by kernel_rfl) (by rfl) (fun K hK => ?_)
              go_simp
              refine hK.out _ _ (show (fun (w' : World) => w'.cell? ⟨gm, 0, none⟩ = some (.slice A6 M6.length c6)) _ from (HH6.out.below (below_drewN (Below.refl _ _) 1) HH6.out.lt).alloc (.cells #[] 54) |>.cell 0) ?_
              clear hK K hS
              have hS := (show (fun (w' : World) => w'.cell? ⟨gm, 0, none⟩ = some (.slice A6 M6.length c6)) _ from (HH6.out.below (below_drewN (Below.refl _ _) 1) HH6.out.lt).alloc (.cells #[] 54) |>.cell 0)
              refine Turns.next 13 rfl (by kernel_rfl) (by rfl) (fun K hK => ?_)
              refine Lib.wp_append_run _ (.tmp 88) (.tmp 92) 29 29 rfl _ _ (by simp [Act.eval, Act.put]) (by simp [Act.eval, Act.put]) _ _ hcp ?_
              have k7 := (HH6.out.below (below_drewN (Below.refl _ _) 1) HH6.out.lt).below HB7.out HH6.out.lt
              refine hK.out _ _ (show (fun (w' : World) => w'.cell? ⟨gm, 0, none⟩ = some (.slice A6 M6.length c6)) _ from k7.cell 0) ?_
              clear hK K hS
              have hS := (show (fun (w' : World) => w'.cell? ⟨gm, 0, none⟩ = some (.slice A6 M6.length c6)) _ from k7.cell 0)
              refine Turns.take hS 14 _ rfl (by kernel_rfl) (by kernel_rfl) (by kernel_rfl) (by kernel_rfl) (fun _ _ _ h => h) (by rfl) (fun w' hS' => by (try dsimp only at hS'); go_split_ands; go_simp; (try with_reducible rfl)) ?_
              simp only [Act.put, List.getElem_toArray, List.getElem_cons_succ, List.getElem_cons_zero, List.setIfInBounds_toArray, List.set_cons_zero, List.set_cons_succ]
              refine Turns.next 15 rfl (by kernel_rfl) (by rfl) (fun K hK => ?_)
              go_simp
              refine hsame.mono ?_
              rintro e w8 ⟨rfl, hb8⟩
              have k8 := k7.below hb8 k7.lt
              refine hK.out _ _ (show (fun (w' : World) => w'.cell? ⟨gm, 0, none⟩ = some (.slice A6 M6.length c6)) _ from k8.cell 0) ?_
              clear hK K hS
              have hS := (show (fun (w' : World) => w'.cell? ⟨gm, 0, none⟩ = some (.slice A6 M6.length c6)) _ from k8.cell 0)
              refine Turns.take hS 16 _ rfl (by kernel_rfl) (by kernel_rfl) (by kernel_rfl) (by kernel_rfl) (fun _ _ _ h => h) (by rfl) (fun w' hS' => by (try dsimp only at hS'); go_split_ands; go_simp; (try with_reducible rfl)) ?_
              simp only [Act.put, List.getElem_toArray, List.getElem_cons_succ, List.getElem_cons_zero, List.setIfInBounds_toArray, List.set_cons_zero, List.set_cons_succ]
              refine Turns.take hS 17 _ rfl (by kernel_rfl) (by kernel_rfl) (by kernel_rfl) (by kernel_rfl) (fun _ _ _ h => h) (by rfl) (fun w' hS' => by (try dsimp only at hS'); go_split_ands; go_simp; (try with_reducible rfl)) ?_
              simp only [Act.put, List.getElem_toArray, List.getElem_cons_succ, List.getElem_cons_zero, List.setIfInBounds_toArray, List.set_cons_zero, List.set_cons_succ]
              refine Turns.rest (late_done (by kernel_rfl)) ?_
              refine any_tail 18 (by rfl) (by kernel_rfl) ?_
              simp only [List.drop_succ_cons, List.drop_zero]
              clear hS
              have hb68 : Below W6.heap.size W6 w8 := by
                have h1 := below_drewN (Below.refl W6.heap.size W6) 1
                exact (h1.trans (HB7.out.mono h1.size)).trans (hb8.mono (Nat.le_trans h1.size HB7.out.size))
              have HTied : Hid (Tied gx gm w (k + 1) w8) := ⟨L6, M6, T6, v6, _, HT6.out.below hb68, HR6.out.below hb68, HRel6.out, hT60, hT6k, HB6.out.trans (hb68.mono HB6.out.size)⟩
              clear hb68 hcp hsame hln
              go_wp2
              go_roundw
              case rel => exact ⟨k + 1, by omega, by go_num, HTied.out⟩
              case measure => simp [intOf]; omega
    · have HB := Lib.hid hb
      clear hT hR hrel hb
      go_wp2_with (first
        | (go_at_call 16; refine (first_nil _).mono ?_; rintro e w7 ⟨rfl, hb7⟩)
        | (go_at_call 8; refine (set_nil _ _ _).mono ?_; rintro e w' ⟨rfl, rfl⟩)
        | (go_at_call 10; refine (drop_nil _ _).mono ?_; rintro e w8 ⟨rfl, hb8⟩)
        | (go_at_call 12; refine (due_nil _ _).mono ?_; rintro e w' ⟨rfl, rfl⟩)
        | (go_at_call 14; refine (len_nil _).mono ?_; rintro e w' ⟨rfl, rfl⟩))
      go_ret
      exact ⟨rfl, (HB.out.trans (hb7.mono HB.out.size)).trans (hb8.mono (Nat.le_trans HB.out.size hb7.size))⟩

set_option maxRecDepth 100000 in
theorem lifted (os : Os) (started : os.Started) (H : Type) (enc : TypeId × Value → H) :
    ReturnsInHanded {} Try.checked os 3 .any (Rows.timerDoesSpec.pre6 enc Try.prog Try.f3 Rows.timerDoesRow.domain false) (Rows.timerDoesSpec.post enc Try.prog Try.f3 false true false false) := by
  refine returnsInHanded_of_change (C := Try.checked) own started (by kernel_rfl) Try.func3
    (ChangeSpec.witness6 (enc := enc) (C := Try.checked) false ⟨#[], #[.slice none 0 0], []⟩ 8 (by kernel_rfl) (by kernel_rfl) (by kernel_rfl) (by kernel_rfl)) ?_
  intro W base args ds gs before hval0 hW hcnd _
  have hval : ∀ (j : Nat) t v, Try.f3.params[j]? = some t → args[j]? = some v → Value.okWide Try.prog W .any base t v := hval0
  have hW' := hW
  obtain ⟨p, q, hA0, hV, rfl, hfz, hnd⟩ := hW
  have hA : DataW.TrodAll enc Try.prog W 0 (fun _ => true) true Try.f3.params.toList args.toList ds p := hA0
  have hAk := hA
  rw [Try.params3] at hA hval
  obtain ⟨v0, vs0, d0, ds0, p0, q0, hargs, rfl, hp, h0, r0⟩ := trodAll_cons hA
  obtain ⟨rfl, rfl, rfl⟩ := trodAll_nil r0
  obtain rfl : args = #[v0] := by cases args; simp_all
  obtain ⟨rfl, rfl⟩ := trodVars_none hV
  clear hA0 hval0 hargs
  simp only [List.append_nil] at hW'
  have hend : ∀ W' : World, Below W.heap.size W W' → Rows.timerDoesSpec.post enc Try.prog Try.f3 false true false false W #[v0] (.bool true) W' := fun W' hb =>
    law_post (tb := 4) hW' hAk rfl (by kernel_rfl) (by kernel_rfl) (by kernel_rfl) Try.underlying4 rfl rfl rfl hb
  clear hW' hAk hp
  obtain ⟨A0, n0, c0, f0, rfl, w0⟩ := flats_arg (ks := [.int .i64, .int .i64, .int .i64]) 9 Try.underlying22 (by kernel_rfl) (by kernel_rfl) (by decide) (hval 0 22 v0 rfl rfl) h0
  refine (walk A0 n0 c0 f0 W w0).mono fun e W' ⟨he, hg⟩ => ?_
  subst he
  exact ⟨_, rfl, hend W' hg⟩

theorem over : Rows.timerDoesRow.holds Try.pinned (OpenSpec.ofChange Rows.timerDoesSpec) :=
  OpenClaim.holds_of_wide 3 Try.f3 rfl rfl rfl rfl rfl rfl rfl ⟨rfl, rfl, rfl, rfl, rfl⟩ rfl rfl rfl rfl rfl (by kernel_rfl) Try.func3 (by kernel_rfl)
    (of_decide_eq_true (by kernel_rfl)) (by unfold Func.isWrapper; first | (rw [if_pos (by decide +kernel)]; kernel_rfl) | (rw [if_neg (by decide +kernel)]; exact ⟨rfl, rfl⟩))
    (fun os started H enc _ => lifted os started H enc)

/-- THE STATEMENT -/
theorem proved : Rows.TimerDoesSaid :=
  over
#print axioms proved
end Go.Proofs.Ytfpjicmmnhcfcaa.timerDoes
