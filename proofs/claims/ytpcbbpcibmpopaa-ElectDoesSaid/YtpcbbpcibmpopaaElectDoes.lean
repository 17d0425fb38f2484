/-
  In every script of up to 300 calls each answer, the root and its mark are the document's; what can't be is refused; a nil node.
  The walk is the prover's own; the frame of the row's step follows the kit's template.
-/
import Derived.Test.YtpcbbpcibmpopaaRows
import Derived.Test.YtpcbbpcibmpopaaLawKit
import Derived.Test.YtpcbbpcibmpopaaStructArg
import Derived.Test.YtpcbbpcibmpopaaFlat
import Derived.Test.YtpcbbpcibmpopaaElN
import Derived.Deep.QuietTactic
import Derived.BigQuiet
import Derived.Deep.CutBlock
import Derived.Deep.CutRange
namespace Go.Proofs.Ytpcbbpcibmpopaa.electDoes
open Go.ChangeShapes Go.WideShapes Go.ChangeAt Go.RowKit Go.ChangeMaps Go.WideElems
set_option linter.unusedVariables false

theorem split2 {ns : List Int} (h : ns.length = 2) : ∃ s1_0 s1_1 : Int, ns = [s1_0, s1_1] := by
  match ns, h with
  | [y0, y1], _ => exact ⟨_, _, rfl⟩
theorem cells2 {W : World} {vs : List Value} (h : Fit W [.int .i64, .int .i64, .int .u16, .int .u16] vs) : ∃ (s0 : Int) (s1 : Int) (s2 : Int) (s3 : Int), vs = [.int .i64 s0, .int .i64 s1, .int .u16 s2, .int .u16 s3] ∧ (Lit.int .i64 s0).wf = true ∧ (Lit.int .i64 s1).wf = true ∧ (Lit.int .u16 s2).wf = true ∧ (Lit.int .u16 s3).wf = true := by
  match vs, h.length, h with
  | [y0, y1, y2, y3], _, h =>
    obtain ⟨⟨x0, rfl, h0⟩, ⟨x1, rfl, h1⟩, ⟨x2, rfl, h2⟩, ⟨x3, rfl, h3⟩, _⟩ := h
    exact ⟨x0, x1, x2, x3, rfl, h0, h1, h2, h3⟩
theorem own : ownKnob Try.prog.godebug = none := by kernel_rfl
set_option linter.unusedSimpArgs false in
set_option maxHeartbeats 16000000 in
set_option maxRecDepth 100000 in
theorem walk (a0 : Int) (s1_0 s1_1 : Int) (A2 : Option Addr) (n2 c2 : Nat) (f2 : Nat → List Value) (w : World) (w0 : (Lit.int .i64 a0).wf = true) (w1_0 : (Lit.int .i64 s1_0).wf = true) (w1_1 : (Lit.int .i64 s1_1).wf = true) (w2 : FlatRow w [.int .i64, .int .i64, .int .u16, .int .u16] A2 n2 c2 f2) :
    Calls Try.prog 3 #[.int .i64 a0, .agg #[.int .i64 s1_0, .int .i64 s1_1], .slice A2 n2 c2] w fun e w' => e = .returned (.bool true) ∧ Below w.heap.size w w' := by
  have HB0 := Lib.hid (Box.start w 23 #[.int .i64 s1_0, .int .i64 s1_1])
  by_cases h300 : 300 < n2
  · have d3 : decide ((300 : Int) < (n2 : Int)) = true := decide_eq_true (by omega)
    go_enter Try.func3, Try.ntmps3
    go_wp2_with (go_at_call 8; refine (alive_yes _).mono ?_; rintro e w1 ⟨rfl, hb1⟩)
    go_ret
    exact ⟨rfl, (HB0.out.next hb1).below⟩
  have d3 : decide ((300 : Int) < (n2 : Int)) = false := decide_eq_false (by omega)
  have hcap := w2.cap_le
  have hmx := w2.max
  unfold maxLen at hmx
  have R := Lib.hid w2
  clear w2
  cases hgd : goodB a0 s1_0 s1_1 with
  | false =>
    have hnew := fun W => new_no W a0 s1_0 s1_1 hgd
    have hrg := fun W => rgood_any W a0 s1_0 s1_1
    simp only [hgd] at hrg
    have hru := fun W => rules_any W s1_0 s1_1
    have hcase : rulesB s1_0 s1_1 = false ∨ (rulesB s1_0 s1_1 = true ∧ decide (a0 < 0) = true) ∨ (rulesB s1_0 s1_1 = true ∧ decide (a0 < 0) = false ∧ decide (63 < a0) = true) := by
      cases hr : rulesB s1_0 s1_1 with
      | false => exact .inl rfl
      | true =>
        right
        have k := of_decide_eq_true hr
        unfold goodB at hgd
        have k2 := of_decide_eq_false hgd
        by_cases e : a0 < 0
        · exact .inl ⟨rfl, decide_eq_true e⟩
        · exact .inr ⟨rfl, decide_eq_false e, decide_eq_true (by omega)⟩
    obtain ⟨ru, hru'⟩ : ∃ ru, rulesB s1_0 s1_1 = ru := ⟨_, rfl⟩
    simp only [hru'] at hru hcase
    clear hgd hru'
    rcases hcase with rfl | ⟨rfl, d1⟩ | ⟨rfl, d1, d2⟩ <;>
    · go_enter Try.func3, Try.ntmps3
      go_wp2_with (first
        | (go_at_call 8; refine (alive_yes _).mono ?_; rintro e w1 ⟨rfl, hb1⟩; replace HB0 := Lib.hid (HB0.out.next hb1); have x0 := HB0.out.holds.cell 0; have x1 := HB0.out.holds.cell 1; clear hb1)
        | (go_at_call 9; refine (hnew _).mono ?_; rintro e w2 ⟨rfl, hb2⟩; replace HB0 := Lib.hid (HB0.out.next hb2); clear hb2 x0 x1)
        | (go_at_call 10; refine (boot_nil _ _).mono ?_; rintro e wx ⟨rfl, hwx⟩; subst wx)
        | (go_at_call 11; refine (nomark _).mono ?_; rintro e w3 ⟨rfl, hb3⟩; replace HB0 := Lib.hid (HB0.out.next hb3); clear hb3)
        | (go_at_call 12; refine (noword _).mono ?_; rintro e w4 ⟨rfl, hb4⟩; replace HB0 := Lib.hid ((HB0.out.alloc _).next hb4); clear hb4)
        | (go_at_call 13; refine (root_nil _).mono ?_; rintro e wx ⟨rfl, hwx⟩; subst wx)
        | (go_at_call 14; refine (mine_nil _).mono ?_; rintro e wx ⟨rfl, nq, rfl⟩)
        | (go_at_call 15; refine (beat_nil _).mono ?_; rintro e wx ⟨rfl, hwx⟩; subst wx)
        | (go_at_call 16; refine (hear_nil _ _ _ _).mono ?_; rintro e w5 ⟨rfl, hb5⟩; replace HB0 := Lib.hid (((HB0.out.alloc _).drewN _).next hb5); have x0 := HB0.out.holds.cell 0; have x1 := HB0.out.holds.cell 1; clear hb5)
        | (go_at_call 17; refine (hrg _).mono ?_; rintro e wx ⟨rfl, hwx⟩; subst wx)
        | (go_at_call 18; refine (hru _).mono ?_; rintro e w6 ⟨rfl, hb6⟩; replace HB0 := Lib.hid (HB0.out.next hb6); clear hb6))
      go_ret
      exact ⟨rfl, HB0.out.below⟩
  | true =>
    have hnew := fun W => new_yes W a0 s1_0 s1_1 hgd
    have hrg := fun W => rgood_any W a0 s1_0 s1_1
    simp only [hgd] at hrg
    have hru := fun W => rules_any W s1_0 s1_1
    have hrr : rulesB s1_0 s1_1 = true := by
      have k := (good_iff _ _ _).1 hgd
      exact decide_eq_true (by omega)
    simp only [hrr] at hru
    have HRn := Lib.hid (fun W x => rnew_any W a0 s1_0 s1_1 x)
    have HRu := Lib.hid hru
    clear hgd hrr hru
    go_enter Try.func3, Try.ntmps3
    go_wp2_with (first
      | (go_at_call 8; refine (alive_yes _).mono ?_; rintro e w1 ⟨rfl, hb1⟩; have hx1 := HB0.out.next hb1; have HX1 := Lib.hid hx1; have x0 := hx1.holds.cell 0; have x1 := hx1.holds.cell 1; clear hx1)
      | (go_at_call 9; refine (hnew _).mono ?_; rintro e w2 ⟨g, b, rfl, hE, hb2⟩; have hL := Lw.start HX1.out hE hb2; have HL0 := Lib.hid hL; clear hE hL hb2 hnew x0 x1 HX1 hb1)
      | (go_at_call 10; refine (boot_nil _ _).mono ?_; rintro e wx ⟨rfl, hwx⟩; subst wx)
      | (go_at_call 11; refine (nomark _).mono ?_; rintro e w3 ⟨rfl, hb3⟩; replace HL0 := Lib.hid (HL0.out.below hb3); clear hb3)
      | (go_at_call 12; refine (noword _).mono ?_; rintro e w4 ⟨rfl, hb4⟩; replace HL0 := Lib.hid ((HL0.out.alloc _).below hb4); clear hb4)
      | (go_at_call 13; refine (root_nil _).mono ?_; rintro e wx ⟨rfl, hwx⟩; subst wx)
      | (go_at_call 14; refine (mine_nil _).mono ?_; rintro e wx ⟨rfl, nq, rfl⟩)
      | (go_at_call 15; refine (beat_nil _).mono ?_; rintro e wx ⟨rfl, hwx⟩; subst wx)
      | (go_at_call 16; refine (hear_nil _ _ _ _).mono ?_; rintro e w5 ⟨rfl, hb5⟩; replace HL0 := Lib.hid (((HL0.out.alloc _).drewN _).below hb5); have x0 := HL0.out.cells.1; have x1 := HL0.out.cells.2; clear hb5)
      | (go_at_call 17; refine (hrg _).mono ?_; rintro e wx ⟨rfl, hwx⟩; subst wx)
      | (go_at_call 19; refine (HRn.out _ _).mono ?_; rintro e w6 ⟨rfl, hD, hb6⟩; have HD := Lib.hid hD; have hgm := HL0.out.law.size; have hgw := HL0.out.box.lt; have HL1 := Lib.hid (HL0.out.below hb6); clear hD hb6 x0 x1))
    clear hrg
    go_loopw [14, 104] (fun mp i wr => ∃ (k b n gm : Nat) (s : St), k ≤ n2 ∧ i = .int .i64 k ∧ mp = .pointer (some ⟨gm, 0, none⟩) ∧ n ≤ k ∧ (s.me = a0 ∧ s.tmo = s1_0 ∧ s.ign = s1_1) ∧ w.heap.size + 1 ≤ gm ∧ Lw w wr s1_0 s1_1 g b n s ∧ Dn wr gm s) (fun _ i _ => n2 - (intOf i).toNat)
    case atStart => exact ⟨0, b, 0, _, _, by omega, rfl, rfl, by omega, ⟨rfl, rfl, rfl⟩, by omega, HL1.out, HD.out⟩
    case round =>
      obtain ⟨k, b, n, gm, s, hk, rfl, rfl, hn, ⟨hme, htm, hig⟩, hgm, hL, hD⟩ := hrel
      have HL := Lib.hid hL
      have HDn := Lib.hid hD
      clear hL hD HL0 HL1 HD
      by_cases hlt : k < n2
      · obtain ⟨a, off, rfl, hb', hc⟩ := (R.out.below HL.out.law).at 4 rfl hlt
        obtain ⟨s0, s1, s2, s3, hf, hw0, hw1, hw2, hw3⟩ := cells2 (R.out.fit k hlt)
        have q0 : wr.cell? ⟨a, off + k * 4, none⟩ = some (.int .i64 s0) := hc 0 _ (by rw [hf]; rfl)
        have q1 : wr.cell? ⟨a, off + k * 4 + 1, none⟩ = some (.int .i64 s1) := hc 1 _ (by rw [hf]; rfl)
        have q2 : wr.cell? ⟨a, off + k * 4 + 2, none⟩ = some (.int .u16 s2) := hc 2 _ (by rw [hf]; rfl)
        have q3 : wr.cell? ⟨a, off + k * 4 + 3, none⟩ = some (.int .u16 s3) := hc 3 _ (by rw [hf]; rfl)
        have f2 := f16_wf hw2
        have f3 := f16_wf hw3
        have ew := IntWalk.i64_in ((k : Int) + 1) (by omega)
        have HI := Lib.hid HL.out.node.inv
        obtain ⟨hgo, hbo⟩ := HL.out.apart
        have hmo := HDn.out.lt
        have HL1 := Lib.hid (HL.out.alloc (.cells #[.int .i64 s0, .int .i64 s1, .int .u16 s2, .int .u16 s3] 43))
        have HD1 := Lib.hid (HDn.out.below (below_alloc _ (.cells #[.int .i64 s0, .int .i64 s1, .int .u16 s2, .int .u16 s3] 43)))
        have HO := Lib.hid (Holds.new wr 43 #[.int .i64 s0, .int .i64 s1, .int .u16 s2, .int .u16 s3])
        have HMe := Lib.hid (And.intro hme (And.intro htm hig))
        have hkind : (s0 = 0 ∨ s0 = 1 ∨ s0 = 2) ∨ (s0 = 3 ∨ s0 = 4) ∨ s0 = 5 ∨ s0 = 6 ∨ ((s0 == 0) = false ∧ (s0 == 1) = false ∧ (s0 == 2) = false ∧ (s0 == 3) = false ∧ (s0 == 4) = false ∧ (s0 == 5) = false ∧ (s0 == 6) = false) := by
          by_cases k0 : s0 = 0 <;> by_cases k1 : s0 = 1 <;> by_cases k2 : s0 = 2 <;> by_cases k3 : s0 = 3 <;> by_cases k4 : s0 = 4 <;> by_cases k5 : s0 = 5 <;> by_cases k6 : s0 = 6 <;> simp_all
        clear hc hf hw0 hw2 hw3 HL HDn hme htm hig
        have hgmz := hgm
        go_upto_block 2 with fail
        go_cut [14, 17, 18, 104] from 104 to 248 (fun mp _ _ i wx => ∃ (bz nz gmz : Nat) (S : St), i = .int .i64 k ∧ mp = .pointer (some ⟨gmz, 0, none⟩) ∧ nz ≤ k + 1 ∧ (S.me = a0 ∧ S.tmo = s1_0 ∧ S.ign = s1_1) ∧ w.heap.size + 1 ≤ gmz ∧ Lw w wx s1_0 s1_1 g bz nz S ∧ Dn wx gmz S)
        case first =>
          rcases hkind with hkind | hkind | rfl | rfl | ⟨k0, k1, k2, k3, k4, k5, k6⟩
          · obtain ⟨V, hV⟩ : ∃ V, hearV s s1 s2 s3 = V := ⟨_, rfl⟩
            obtain ⟨S, hS⟩ : ∃ S, hearS s s1 s2 s3 = S := ⟨_, rfl⟩
            have HMz : Hid (S.me = a0 ∧ S.tmo = s1_0 ∧ S.ign = s1_1) := Lib.hid (by rw [← hS]; unfold hearS; split <;> exact HMe.out)
            have dv : (V != V) = false := by simp
            have HA := Lib.hid (fun W (h : Lw w W s1_0 s1_1 g b n s) => hear_at h.node (by omega) s1 s2 s3 hw1 f2 f3 hV hS)
            have HRh := Lib.hid (fun W (h : Dn W gm s) => rhear_at h HI.out s1 s2 s3 f2 f3 hV hS)
            have HLd := Lib.hid (HL1.out.drewN 1)
            have HDd := Lib.hid (HD1.out.drewN 1)
            have HOd := Lib.hid (HO.out.drewN 1)
            clear hV hS
            rcases hkind with rfl | rfl | rfl <;>
            · go_upto_region 22 with fail
              refine region_turns (fun (w' : World) => w'.cell? ⟨wr.heap.size, 1, none⟩ = some (.int .i64 s1) ∧ w'.cell? ⟨wr.heap.size, 2, none⟩ = some (.int .u16 s2) ∧ w'.cell? ⟨wr.heap.size, 3, none⟩ = some (.int .u16 s3)) (fun j => decide (17 ≤ j)) (by kernel_rfl) (⟨HOd.out.cell 1, HOd.out.cell 2, HOd.out.cell 3⟩) (fun hS => ?_)
              refine Turns.take hS 0 _ rfl (by kernel_rfl) (by kernel_rfl) (by kernel_rfl) (by kernel_rfl) (fun _ _ _ h => h) (by rfl) (fun w' hS' => by (try dsimp only at hS'); go_split_ands; go_simp; (try with_reducible rfl)) ?_
              simp only [Act.put, List.getElem_toArray, List.getElem_cons_succ, List.getElem_cons_zero, List.setIfInBounds_toArray, List.set_cons_zero, List.set_cons_succ]
              refine Turns.take hS 1 _ rfl (by kernel_rfl) (by kernel_rfl) (by kernel_rfl) (by kernel_rfl) (fun _ _ _ h => h) (by rfl) (fun w' hS' => by (try dsimp only at hS'); go_split_ands; go_simp; (try with_reducible rfl)) ?_
              simp only [Act.put, List.getElem_toArray, List.getElem_cons_succ, List.getElem_cons_zero, List.setIfInBounds_toArray, List.set_cons_zero, List.set_cons_succ]
              refine Turns.take hS 2 _ rfl (by kernel_rfl) (by kernel_rfl) (by kernel_rfl) (by kernel_rfl) (fun _ _ _ h => h) (by rfl) (fun w' hS' => by (try dsimp only at hS'); go_split_ands; go_simp; (try with_reducible rfl)) ?_
              simp only [Act.put, List.getElem_toArray, List.getElem_cons_succ, List.getElem_cons_zero, List.setIfInBounds_toArray, List.set_cons_zero, List.set_cons_succ]
              refine Turns.take hS 3 _ rfl (by kernel_rfl) (by kernel_rfl) (by kernel_rfl) (by kernel_rfl) (fun _ _ _ h => h) (by rfl) (fun w' hS' => by (try dsimp only at hS'); go_split_ands; go_simp; (try with_reducible rfl)) ?_
              simp only [Act.put, List.getElem_toArray, List.getElem_cons_succ, List.getElem_cons_zero, List.setIfInBounds_toArray, List.set_cons_zero, List.set_cons_succ]
              refine Turns.take hS 4 _ rfl (by kernel_rfl) (by kernel_rfl) (by kernel_rfl) (by kernel_rfl) (fun _ _ _ h => h) (by rfl) (fun w' hS' => by (try dsimp only at hS'); go_split_ands; go_simp; (try with_reducible rfl)) ?_
              simp only [Act.put, List.getElem_toArray, List.getElem_cons_succ, List.getElem_cons_zero, List.setIfInBounds_toArray, List.set_cons_zero, List.set_cons_succ]
              refine Turns.take hS 6 _ rfl (by kernel_rfl) (by kernel_rfl) (by kernel_rfl) (by kernel_rfl) (fun _ _ _ h => h) (by rfl) (fun w' hS' => by (try dsimp only at hS'); go_split_ands; go_simp; (try with_reducible rfl)) ?_
              simp only [Act.put, List.getElem_toArray, List.getElem_cons_succ, List.getElem_cons_zero, List.setIfInBounds_toArray, List.set_cons_zero, List.set_cons_succ]
              refine Turns.take hS 7 _ rfl (by kernel_rfl) (by kernel_rfl) (by kernel_rfl) (by kernel_rfl) (fun _ _ _ h => h) (by rfl) (fun w' hS' => by (try dsimp only at hS'); go_split_ands; go_simp; (try with_reducible rfl)) ?_
              simp only [Act.put, List.getElem_toArray, List.getElem_cons_succ, List.getElem_cons_zero, List.setIfInBounds_toArray, List.set_cons_zero, List.set_cons_succ]
              refine Turns.take hS 8 _ rfl (by kernel_rfl) (by kernel_rfl) (by kernel_rfl) (by kernel_rfl) (fun _ _ _ h => h) (by rfl) (fun w' hS' => by (try dsimp only at hS'); go_split_ands; go_simp; (try with_reducible rfl)) ?_
              simp only [Act.put, List.getElem_toArray, List.getElem_cons_succ, List.getElem_cons_zero, List.setIfInBounds_toArray, List.set_cons_zero, List.set_cons_succ]
              refine Turns.take hS 9 _ rfl (by kernel_rfl) (by kernel_rfl) (by kernel_rfl) (by kernel_rfl) (fun _ _ _ h => h) (by rfl) (fun w' hS' => by (try dsimp only at hS'); go_split_ands; go_simp; (try with_reducible rfl)) ?_
              simp only [Act.put, List.getElem_toArray, List.getElem_cons_succ, List.getElem_cons_zero, List.setIfInBounds_toArray, List.set_cons_zero, List.set_cons_succ]
              refine Turns.take hS 10 _ rfl (by kernel_rfl) (by kernel_rfl) (by kernel_rfl) (by kernel_rfl) (fun _ _ _ h => h) (by rfl) (fun w' hS' => by (try dsimp only at hS'); go_split_ands; go_simp; (try with_reducible rfl)) ?_
              simp only [Act.put, List.getElem_toArray, List.getElem_cons_succ, List.getElem_cons_zero, List.setIfInBounds_toArray, List.set_cons_zero, List.set_cons_succ]
              refine Turns.take hS 11 _ rfl (by kernel_rfl) (by kernel_rfl) (by kernel_rfl) (by kernel_rfl) (fun _ _ _ h => h) (by rfl) (fun w' hS' => by (try dsimp only at hS'); go_split_ands; go_simp; (try with_reducible rfl)) ?_
              simp only [Act.put, List.getElem_toArray, List.getElem_cons_succ, List.getElem_cons_zero, List.setIfInBounds_toArray, List.set_cons_zero, List.set_cons_succ]
              refine Turns.take hS 12 _ rfl (by kernel_rfl) (by kernel_rfl) (by kernel_rfl) (by kernel_rfl) (fun _ _ _ h => h) (by rfl) (fun w' hS' => by (try dsimp only at hS'); go_split_ands; go_simp; (try with_reducible rfl)) ?_
              simp only [Act.put, List.getElem_toArray, List.getElem_cons_succ, List.getElem_cons_zero, List.setIfInBounds_toArray, List.set_cons_zero, List.set_cons_succ]
              refine Turns.take hS 13 _ rfl (by kernel_rfl) (by kernel_rfl) (by kernel_rfl) (by kernel_rfl) (fun _ _ _ h => h) (by rfl) (fun w' hS' => by (try dsimp only at hS'); go_split_ands; go_simp; (try with_reducible rfl)) ?_
              simp only [Act.put, List.getElem_toArray, List.getElem_cons_succ, List.getElem_cons_zero, List.setIfInBounds_toArray, List.set_cons_zero, List.set_cons_succ]
              refine Turns.take hS 14 _ rfl (by kernel_rfl) (by kernel_rfl) (by kernel_rfl) (by kernel_rfl) (fun _ _ _ h => h) (by rfl) (fun w' hS' => by (try dsimp only at hS'); go_split_ands; go_simp; (try with_reducible rfl)) ?_
              simp only [Act.put, List.getElem_toArray, List.getElem_cons_succ, List.getElem_cons_zero, List.setIfInBounds_toArray, List.set_cons_zero, List.set_cons_succ]
              refine Turns.next 5 rfl (by kernel_rfl) (by rfl) (fun K hK => ?_)
              go_simp
              refine (HA.out _ HLd.out).mono ?_
              rintro e w4 ⟨rfl, hg4⟩
              obtain ⟨bz, hL4, hO4, hc4, -⟩ := HLd.out.step hg4 HOd.out (by omega) (by omega)
              have HD4 := Lib.hid (HDd.out.node HLd.out hc4)
              have HL4 := Lib.hid hL4
              have HO4 := Lib.hid hO4
              clear hg4 hL4 hO4 hc4
              refine hK.out _ _ (show (fun (w' : World) => w'.cell? ⟨wr.heap.size, 1, none⟩ = some (.int .i64 s1) ∧ w'.cell? ⟨wr.heap.size, 2, none⟩ = some (.int .u16 s2) ∧ w'.cell? ⟨wr.heap.size, 3, none⟩ = some (.int .u16 s3)) _ from ⟨HO4.out.cell 1, HO4.out.cell 2, HO4.out.cell 3⟩) ?_
              clear hK K hS
              have hS := (show (fun (w' : World) => w'.cell? ⟨wr.heap.size, 1, none⟩ = some (.int .i64 s1) ∧ w'.cell? ⟨wr.heap.size, 2, none⟩ = some (.int .u16 s2) ∧ w'.cell? ⟨wr.heap.size, 3, none⟩ = some (.int .u16 s3)) _ from ⟨HO4.out.cell 1, HO4.out.cell 2, HO4.out.cell 3⟩)
              refine Turns.next 15 rfl (by kernel_rfl) (by rfl) (fun K hK => ?_)
              go_simp
              refine (HRh.out _ HD4.out).mono ?_
              rintro e w5 ⟨rfl, hd5, hg5⟩
              have HLz := Lib.hid (HL4.out.doc HD4.out hg5 hgm)
              have HDz := Lib.hid hd5
              have HOz := Lib.hid (HO4.out.grown hg5 (by simp; omega))
              clear hd5 hg5
              refine hK.out _ _ (show (fun (w' : World) => w'.cell? ⟨wr.heap.size, 1, none⟩ = some (.int .i64 s1) ∧ w'.cell? ⟨wr.heap.size, 2, none⟩ = some (.int .u16 s2) ∧ w'.cell? ⟨wr.heap.size, 3, none⟩ = some (.int .u16 s3)) _ from ⟨HOz.out.cell 1, HOz.out.cell 2, HOz.out.cell 3⟩) ?_
              clear hK K hS
              have hS := (show (fun (w' : World) => w'.cell? ⟨wr.heap.size, 1, none⟩ = some (.int .i64 s1) ∧ w'.cell? ⟨wr.heap.size, 2, none⟩ = some (.int .u16 s2) ∧ w'.cell? ⟨wr.heap.size, 3, none⟩ = some (.int .u16 s3)) _ from ⟨HOz.out.cell 1, HOz.out.cell 2, HOz.out.cell 3⟩)
              refine Turns.take hS 16 _ rfl (by kernel_rfl) (by kernel_rfl) (by kernel_rfl) (by kernel_rfl) (fun _ _ _ h => h) (by rfl) (fun w' hS' => by (try dsimp only at hS'); go_split_ands; go_simp; (try with_reducible rfl)) ?_
              simp only [Act.put, List.getElem_toArray, List.getElem_cons_succ, List.getElem_cons_zero, List.setIfInBounds_toArray, List.set_cons_zero, List.set_cons_succ]
              refine Turns.rest (late_done (by kernel_rfl)) ?_
              refine any_tail 17 (by rfl) (by kernel_rfl) ?_
              simp only [List.drop_succ_cons, List.drop_zero]
              clear hS
              go_wp2
              go_meet
              case rel => exact ⟨bz, n + 1, gm, S, rfl, rfl, by omega, HMz.out, hgmz, HLz.out, HDz.out⟩
          · obtain ⟨V, hV⟩ : ∃ V, beatB s = V := ⟨_, rfl⟩
            obtain ⟨S, hS⟩ : ∃ S, beatS s = S := ⟨_, rfl⟩
            have HMz : Hid (S.me = a0 ∧ S.tmo = s1_0 ∧ S.ign = s1_1) := Lib.hid (by
              rw [← hS]
              unfold beatS
              split
              · exact HMe.out
              · split <;> exact HMe.out)
            have dv : (V != V) = false := by cases V <;> rfl
            have HA := Lib.hid (beat_at HL1.out.node hV hS)
            have HRb := Lib.hid (fun W (h : Dn W gm s) => rbeat_at h HI.out hV hS)
            clear hV hS
            rcases hkind with rfl | rfl <;>
            · go_wp2_with (first
                | (go_at_call 15; (with_reducible refine HA.out.mono ?_); rintro e w4 ⟨rfl, hg4⟩; obtain ⟨bz, hL4, hO4, hc4, -⟩ := HL1.out.step hg4 HO.out (by omega) (by omega); have HD4 := Lib.hid (HD1.out.node HL1.out hc4); have HL4 := Lib.hid hL4; have hB := HRb.out _ HD4.out; clear hg4 hL4 hO4 hc4)
                | (go_at_call 21; (with_reducible refine hB.mono ?_); rintro e w5 ⟨rfl, hd5, hg5⟩; have HLz := Lib.hid (HL4.out.doc HD4.out hg5 hgm); have HDz := Lib.hid hd5; clear hd5 hg5 hB))
              go_meet
              case rel => exact ⟨bz, n, gm, S, rfl, rfl, by omega, HMz.out, hgmz, HLz.out, HDz.out⟩
          · obtain ⟨S, hS⟩ : ∃ S, issueS s = S := ⟨_, rfl⟩
            have HMz : Hid (S.me = a0 ∧ S.tmo = s1_0 ∧ S.ign = s1_1) := Lib.hid (by rw [← hS]; unfold issueS; split <;> exact HMe.out)
            obtain ⟨y0, y1, y2, y3, y4, y5, y6, y7⟩ := HD1.out.cells
            by_cases hrm : s.root = s.me
            · have hV : issueV s = (s.boot, nextV s.seq) := by unfold issueV; rw [if_pos hrm]
              have hS' : S = { s with seq := nextV s.seq } := by rw [← hS]; unfold issueS; rw [if_pos hrm]
              have dra : (s.root != a0) = false := by rw [hrm, HMe.out.1]; simp
              have HA := Lib.hid (word_at HL1.out.node hV (decide_eq_true hrm) hS)
              have hnx := fun W => rnext_any s.seq W HI.out.seq
              have hput := fun (W : World) (h : Dn W gm s) => h.put 4 (by decide) (.int .u16 (nextV s.seq)) (s' := { s with seq := nextV s.seq }) rfl rfl
              simp only [← hS'] at hput
              obtain ⟨i1, hi1⟩ : ∃ i1, nextV s.seq = i1 := ⟨_, rfl⟩
              simp only [hi1] at hnx hput HA
              have HP := Lib.hid hput
              have g0 : (s.boot != s.boot) = false := by simp
              have g1 : (i1 != i1) = false := by simp
              have HSf : Hid (∀ W, Dn W gm S → W.cell? ⟨gm, 3, none⟩ = some (.int .u16 s.boot) ∧ W.cell? ⟨gm, 4, none⟩ = some (.int .u16 i1)) := Lib.hid (fun W h => by
                have k := h.cells
                rw [hS'] at k
                simp only [hi1] at k
                exact ⟨k.2.2.2.1, k.2.2.2.2.1⟩)
              clear hV hS hS' hrm hput hi1
              go_upto_region 34 with (first
                | (go_at_call 12; (with_reducible refine HA.out.mono ?_); rintro e w4 ⟨rfl, hg4⟩; obtain ⟨bz, hL4, hO4, hc4, -⟩ := HL1.out.step hg4 HO.out (by omega) (by omega); have hD4 := HD1.out.node HL1.out hc4; have hm4 := hD4.lt; have HD4 := Lib.hid hD4; have HL4 := Lib.hid hL4; have HD5 := Lib.hid (hD4.below (below_alloc _ (.cells #[.int .u16 s.boot, .int .u16 i1] 33))); obtain ⟨t0, t1, t2, t3, t4, t5, t6, t7⟩ := HD5.out.cells; have t8 := HD5.out.soft 4; clear hg4 hL4 hO4 hc4 hD4)
                | (go_at_call 22; (with_reducible refine (hnx _).mono ?_); rintro e wx ⟨rfl, hwx⟩; subst wx))
              have hDz := (HP.out _ HD4.out).below (below_alloc _ (.cells #[.int .u16 s.boot, .int .u16 i1] 33))
              have HLz := Lib.hid ((HL4.out.doc HD4.out (grown_set _ gm 4 (.int .u16 i1)) hgm).alloc (.cells #[.int .u16 s.boot, .int .u16 i1] 33))
              have hXz := Holds.new (w4.setCell ⟨gm, 4, none⟩ (.int .u16 i1)) 33 #[.int .u16 s.boot, .int .u16 i1]
              rw [show (w4.setCell ⟨gm, 4, none⟩ (.int .u16 i1)).heap.size = w4.heap.size by simp [World.setCell]] at hXz
              have HXz := Lib.hid hXz
              have HDz := Lib.hid hDz
              obtain ⟨p3, p4⟩ := HSf.out _ hDz
              have x0 := HXz.out.cell 0
              have x1 := HXz.out.cell 1
              clear hDz hXz t0 t1 t2 t3 t4 t5 t6 t7 t8
              go_quiet (fail)
              replace HLz := Lib.hid (HLz.out.drewN nq)
              replace HDz := Lib.hid (HDz.out.drewN nq)
              go_wp2
              go_meet
              case rel => exact ⟨bz, n, gm, S, rfl, rfl, by omega, HMz.out, hgmz, HLz.out, HDz.out⟩
            · have hV : issueV s = (0, 0) := by unfold issueV; rw [if_neg hrm]
              have hS' : S = s := by rw [← hS]; unfold issueS; rw [if_neg hrm]
              have dra : (s.root != a0) = true := by rw [bne_iff_ne]; exact fun e => hrm (by rw [e, HMe.out.1])
              have HA := Lib.hid (word_at HL1.out.node hV (decide_eq_false hrm) hS)
              clear hV hrm
              go_wp2_with (go_at_call 12; (with_reducible refine HA.out.mono ?_); rintro e w4 ⟨rfl, hg4⟩; obtain ⟨bz, hL4, hO4, hc4, -⟩ := HL1.out.step hg4 HO.out (by omega) (by omega); have hD4 := HD1.out.node HL1.out hc4; rw [← hS'] at hD4; have hm4 := hD4.lt; have HDz := Lib.hid (hD4.below (below_alloc _ (.cells #[.int .u16 0, .int .u16 0] 33))); have HLz := Lib.hid (hL4.alloc (.cells #[.int .u16 0, .int .u16 0] 33)); have t5 := HDz.out.cells.2.2.2.2.2.1; rw [hS'] at t5; clear hg4 hL4 hO4 hc4 hD4)
              clear hS hS'
              go_meet
              case rel => exact ⟨bz, n, gm, S, rfl, rfl, by omega, HMz.out, hgmz, HLz.out, HDz.out⟩
          · have HA := Lib.hid (boot_at HL1.out.node s2 f2)
            have HMz : Hid ((bootS s s2).me = a0 ∧ (bootS s s2).tmo = s1_0 ∧ (bootS s s2).ign = s1_1) := Lib.hid HMe.out
            have hns : newS a0 s1_0 s1_1 s2 = bootS s s2 := by rw [← HMe.out.1, ← HMe.out.2.1, ← HMe.out.2.2]; rfl
            have HRn2 := HRn.out
            obtain ⟨S, hS⟩ : ∃ S, bootS s s2 = S := ⟨_, rfl⟩
            rw [hS] at hns HMz HA
            have HRz := Lib.hid (fun W => HRn2 W s2)
            rw [hns] at HRz
            clear hS hns HRn2 hgmz
            go_wp2_with (first
              | (go_at_call 10; (with_reducible refine HA.out.mono ?_); rintro e w4 ⟨rfl, hg4⟩; obtain ⟨bz, hL4, hO4, hc4, -⟩ := HL1.out.step hg4 HO.out (by omega) (by omega); have HL4 := Lib.hid hL4; have x0 := hL4.cells.1; have x1 := hL4.cells.2; have x2 := hO4.cell 2; have hgm4 := hL4.box.lt; clear hg4 hL4 hO4 hc4)
              | (go_at_call 19; (with_reducible refine (HRz.out _).mono ?_); rintro e w5 ⟨rfl, hd5, hb5⟩; have HLz := Lib.hid (HL4.out.below hb5); have HDz := Lib.hid hd5; clear hd5 hb5 x0 x1 x2))
            have hgmz : w.heap.size + 1 ≤ w4.heap.size := by omega
            go_meet
            case rel => exact ⟨bz, 0, w4.heap.size, S, rfl, rfl, by omega, HMz.out, hgmz, HLz.out, HDz.out⟩
          · have HMz := HMe
            have HLz := HL1
            have HDz := HD1
            go_wp2
            go_meet
            case rel => exact ⟨b, n, gm, s, rfl, rfl, by omega, HMz.out, hgmz, HLz.out, HDz.out⟩
        case rest =>
          obtain ⟨bz, nz, gmz, S, rfl, rfl, hnz, hMz, hgmz, hLz, hDz⟩ := hcut
          have HMz := Lib.hid hMz
          have HLz := Lib.hid hLz
          have HDz := Lib.hid hDz
          clear hMz hLz hDz HL1 HD1 HO HMe q0 q1 q2 q3 hkind hw1 f2 f3
          obtain ⟨v0, v1, hv⟩ : ∃ v0 v1, saidV S = (v0, v1) := ⟨_, _, rfl⟩
          obtain ⟨c, hc⟩ : ∃ c, saidB S = c := ⟨_, rfl⟩
          obtain ⟨r, hr⟩ : ∃ r, (S).root = r := ⟨_, rfl⟩
          obtain ⟨mm, hmm⟩ : ∃ mm, decide ((S).root = (S).me) = mm := ⟨_, rfl⟩
          have hSI := HLz.out.node.inv
          have hM1 := said_at HLz.out.node hv hc
          have HM2 := Lib.hid (fun W (h : Dn W gmz S) => rmark_at h hSI hv hc)
          have HR := Lib.hid (fun W (h : Lw w W s1_0 s1_1 g bz (nz) S) => root_at h.node hr)
          have HN := Lib.hid (fun W (h : Lw w W s1_0 s1_1 g bz (nz) S) => mine_at h.node hmm)
          have HC := Lib.hid (fun W (h : Dn W gmz S) => h.cells.2.2.2.2.2.1)
          have dr : (r != r) = false := by simp
          have drr : (r == a0) = mm := by
            rw [← hr, ← hmm, HMz.out.1]
            by_cases e : (S).root = a0 <;> simp [e]
          have dm : (mm != mm) = false := by cases mm <;> rfl
          have dc : (c != c) = false := by cases c <;> rfl
          have e0 : (v0 != v0) = false := by simp
          have e1 : (v1 != v1) = false := by simp
          rw [hr] at HC
          clear hv hc hr hmm hSI
          go_upto_region 41 with (first
            | (go_at_call 11; (with_reducible refine hM1.mono ?_); rintro e w6 ⟨rfl, hb6⟩; have HL6 := Lib.hid ((HLz.out.below hb6).alloc (.cells #[.int .u16 v0, .int .u16 v1] 33)); have HD6 := Lib.hid ((HDz.out.below hb6).below (below_alloc _ (.cells #[.int .u16 v0, .int .u16 v1] 33))); have HX6 := Lib.hid (Holds.new w6 33 #[.int .u16 v0, .int .u16 v1]); have hM2 := HM2.out _ HD6.out; have hlt6 := HX6.out.lt; clear hM1 hb6)
            | (go_at_call 23; (with_reducible refine hM2.mono ?_); rintro e w7 ⟨rfl, hb7⟩; have HL7 := Lib.hid (HL6.out.below hb7); have HD7 := Lib.hid (HD6.out.below hb7); have HX7 := Lib.hid (HX6.out.below hb7 hlt6); have z0 := HX7.out.cell 0; have z1 := HX7.out.cell 1; have z5 := HC.out _ HD7.out; clear hM2 hb7))
          have hR := fun m => HR.out _ (HL7.out.drewN m)
          have hN := fun m => HN.out _ (HL7.out.drewN m)
          go_quiet ((first | (go_at_call 13; refine (hR _).mono ?_; rintro e wx ⟨rfl, rfl⟩; exact ⟨rfl, _, rfl⟩) | (go_at_call 14; refine (hN _).mono ?_; rintro e wx ⟨rfl, nq, rfl⟩; first | exact ⟨rfl, _, drew_two _ _ _⟩ | exact ⟨rfl, _, drew_drew _ _ _ _⟩)))
          go_wp2
          go_roundw
          case rel => exact ⟨k + 1, bz, nz, gmz, S, by omega, by go_num, rfl, by omega, HMz.out, hgmz, HL7.out.drewN _, HD7.out.drewN _⟩
          case measure => simp [intOf]; omega
      · have hkn : k = n2 := by omega
        have hlt' : decide ((k : Int) < (n2 : Int)) = false := decide_eq_false (by omega)
        obtain ⟨x0, x1⟩ := HL.out.cells
        go_wp2_with (go_at_call 18; refine (HRu.out _).mono ?_; rintro e w6 ⟨rfl, hb6⟩)
        go_ret
        exact ⟨rfl, (HL.out.below hb6).law⟩

set_option maxRecDepth 100000 in
theorem lifted (os : Os) (started : os.Started) (H : Type) (enc : TypeId × Value → H) :
    ReturnsInHanded {} Try.checked os 3 .any (Rows.electDoesSpec.pre6 enc Try.prog Try.f3 Rows.electDoesRow.domain false) (Rows.electDoesSpec.post enc Try.prog Try.f3 false true false false) := by
  refine returnsInHanded_of_change (C := Try.checked) own started (by kernel_rfl) Try.func3
    (ChangeSpec.witness6 (enc := enc) (C := Try.checked) false ⟨#[], #[.int .i64 0, .agg #[.int .i64 0, .int .i64 0], .slice none 0 0], []⟩ 8 (by kernel_rfl) (by kernel_rfl) (by kernel_rfl) (by kernel_rfl)) ?_
  intro W base args ds gs before hval0 hW hcnd _
  have hval : ∀ (j : Nat) t v, Try.f3.params[j]? = some t → args[j]? = some v → Value.okWide Try.prog W .any base t v := hval0
  have hW' := hW
  obtain ⟨p, q, hA0, hV, rfl, hfz, hnd⟩ := hW
  have hA : DataW.TrodAll enc Try.prog W 0 (fun _ => true) true Try.f3.params.toList args.toList ds p := hA0
  have hAk := hA
  rw [Try.params3] at hA hval
  obtain ⟨v0, vs0, d0, ds0, p0, q0, hargs, rfl, hp, h0, r0⟩ := trodAll_cons hA
  obtain ⟨v1, vs1, d1, ds1, p1, q1, rfl, rfl, rfl, h1, r1⟩ := trodAll_cons r0
  obtain ⟨v2, vs2, d2, ds2, p2, q2, rfl, rfl, rfl, h2, r2⟩ := trodAll_cons r1
  obtain ⟨rfl, rfl, rfl⟩ := trodAll_nil r2
  obtain rfl : args = #[v0, v1, v2] := by cases args; simp_all
  obtain ⟨rfl, rfl⟩ := trodVars_none hV
  clear hA0 hval0 hargs
  simp only [List.append_nil] at hW'
  have hend : ∀ W' : World, Below W.heap.size W W' → Rows.electDoesSpec.post enc Try.prog Try.f3 false true false false W #[v0, v1, v2] (.bool true) W' := fun W' hb =>
    law_post (tb := 4) hW' hAk rfl (by kernel_rfl) (by kernel_rfl) (by kernel_rfl) Try.underlying4 rfl rfl rfl hb
  clear hW' hAk hp
  obtain ⟨a0, rfl, rfl, rfl, w0⟩ := open_int Try.underlying3 (hval 0 3 v0 rfl rfl) h0
  obtain ⟨ns1, rfl, hl1, hw1⟩ := ints_struct (ks := [.i64, .i64]) Try.underlying23 (by kernel_rfl) (by kernel_rfl) (by kernel_rfl) (hval 1 23 v1 rfl rfl) h1
  obtain ⟨s1_0, s1_1, rfl⟩ := split2 hl1
  clear hl1
  obtain ⟨A2, n2, c2, f2, rfl, w2⟩ := flats_arg (ks := [.int .i64, .int .i64, .int .u16, .int .u16]) 9 Try.underlying24 (by kernel_rfl) (by kernel_rfl) (by decide) (hval 2 24 v2 rfl rfl) h2
  refine (walk a0 s1_0 s1_1 A2 n2 c2 f2 W w0 (hw1 0 _ _ rfl rfl) (hw1 1 _ _ rfl rfl) w2).mono fun e W' ⟨he, hg⟩ => ?_
  subst he
  exact ⟨_, rfl, hend W' hg⟩

theorem over : Rows.electDoesRow.holds Try.pinned (OpenSpec.ofChange Rows.electDoesSpec) :=
  OpenClaim.holds_of_wide 3 Try.f3 rfl rfl rfl rfl rfl rfl rfl ⟨rfl, rfl, rfl, rfl, rfl⟩ rfl rfl rfl rfl rfl (by kernel_rfl) Try.func3 (by kernel_rfl)
    (of_decide_eq_true (by kernel_rfl)) (by unfold Func.isWrapper; first | (rw [if_pos (by decide +kernel)]; kernel_rfl) | (rw [if_neg (by decide +kernel)]; exact ⟨rfl, rfl⟩))
    (fun os started H enc _ => lifted os started H enc)

/-- THE STATEMENT -/
theorem proved : Rows.ElectDoesSaid :=
  over
#print axioms proved
end Go.Proofs.Ytpcbbpcibmpopaa.electDoes
