/-
  Package event: in every script each answer, and all events, are the document's; a nil log: the law answers true for every script of calls. No condition.
  The walk is the prover's own; the frame of the row's step follows the kit's template.
-/
import Derived.Test.YtjifnnloncanpaaRows
import Derived.Test.YtjifnnloncanpaaLawKit
import Derived.Test.YtjifnnloncanpaaFlat
import Derived.Test.YtjifnnloncanpaaEvK
import Derived.LoopTactic
import Derived.Deep.CutBlock
namespace Go.Proofs.Ytjifnnloncanpaa.eventDoes
open Go.ChangeShapes Go.WideShapes Go.ChangeAt Go.RowKit Go.ChangeMaps Go.WideElems
set_option linter.unusedVariables false

theorem cells0 {W : World} {vs : List Value} (h : Fit W [.int .i64, .str, .int .i64, .int .i64, .int .i64, .int .i64, .int .u16, .int .i64] vs) : ∃ (s0 : Int) (s1 : ByteArray) (s2 : Int) (s3 : Int) (s4 : Int) (s5 : Int) (s6 : Int) (s7 : Int), vs = [.int .i64 s0, .string s1, .int .i64 s2, .int .i64 s3, .int .i64 s4, .int .i64 s5, .int .u16 s6, .int .i64 s7] ∧ (Lit.int .i64 s0).wf = true ∧ s1.size ≤ maxLen ∧ (Lit.int .i64 s2).wf = true ∧ (Lit.int .i64 s3).wf = true ∧ (Lit.int .i64 s4).wf = true ∧ (Lit.int .i64 s5).wf = true ∧ (Lit.int .u16 s6).wf = true ∧ (Lit.int .i64 s7).wf = true := by
  match vs, h.length, h with
  | [y0, y1, y2, y3, y4, y5, y6, y7], _, h =>
    obtain ⟨⟨x0, rfl, h0⟩, ⟨x1, rfl, h1⟩, ⟨x2, rfl, h2⟩, ⟨x3, rfl, h3⟩, ⟨x4, rfl, h4⟩, ⟨x5, rfl, h5⟩, ⟨x6, rfl, h6⟩, ⟨x7, rfl, h7⟩, _⟩ := h
    exact ⟨x0, x1, x2, x3, x4, x5, x6, x7, rfl, h0, h1, h2, h3, h4, h5, h6, h7⟩
theorem own : ownKnob Try.prog.godebug = none := by kernel_rfl
set_option linter.unusedSimpArgs false in
set_option maxHeartbeats 8000000 in
set_option maxRecDepth 100000 in
theorem walk (A0 : Option Addr) (n0 c0 : Nat) (f0 : Nat → List Value) (w : World) (w0 : FlatRow w [.int .i64, .str, .int .i64, .int .i64, .int .i64, .int .i64, .int .u16, .int .i64] A0 n0 c0 f0) :
    Calls Try.prog 3 #[.slice A0 n0 c0] w fun e w' => e = .returned (.bool true) ∧ Below w.heap.size w w' := by
  by_cases h200 : 200 < n0
  · have d3 : decide ((200 : Int) < (n0 : Int)) = true := decide_eq_true (by omega)
    go_enter Try.func3, Try.ntmps3
    go_wp2_with (first
      | ((go_at_call 6; refine (alive_yes _).mono ?_; rintro e w1 ⟨rfl, hb1⟩)))
    go_ret
    exact ⟨rfl, hb1⟩
  have d3 : decide ((200 : Int) < (n0 : Int)) = false := decide_eq_false (by omega)
  have R := Lib.hid w0
  have hcap := w0.cap_le
  have hmx := w0.max
  unfold maxLen at hmx
  clear w0
  go_enter Try.func3, Try.ntmps3
  go_wp2_with (first
    | (go_at_call 6; refine (alive_yes _).mono ?_; rintro e w1 ⟨rfl, hb1⟩)
    | (go_at_call 7; refine (lnew_any _).mono ?_; rintro e w2 ⟨rfl, hl2, hb2, hs2⟩; have HS2 := Lib.hid hs2; clear hs2)
    | (go_at_call 8; refine (lclear_nil _).mono ?_; rintro e wx ⟨rfl, hwx⟩; subst wx)
    | (go_at_call 9; refine (tag_none _).mono ?_; rintro e w3 ⟨rfl, hb3⟩; have HD3 := Lib.hid ((Dl.new w2).below hb3))
    | (go_at_call 10; refine (take_nil _).mono ?_; rintro e w4 ⟨rfl, hb4⟩; have HD5 := Lib.hid ((HD3.out.below hb4).below (below_alloc w4 (.cells #[.int .i64 0, .string ⟨#[]⟩, .int .i64 0, .int .i64 0, .int .i64 0, .int .i64 0, .int .u16 0, .int .i64 0] 41))))
    | (go_at_call 11; refine (llen_nil _).mono ?_; rintro e wx ⟨rfl, hwx⟩; subst wx)
    | (go_at_call 12; (with_reducible refine (same_nil _ _ _ _ HD5.out).mono ?_); rintro e w9 ⟨rfl, hb9⟩))
  obtain ⟨z, hz⟩ : ∃ z, w1.heap.size = z := ⟨_, rfl⟩
  have hs2 := HS2.out
  rw [hz] at hl2 hs2
  have htied := ((((Ted.start hl2 (hb1.trans (hb2.mono hb1.size)) (by rw [← hz]; exact hb1.size) hs2).onto hb3).onto hb4).onto (below_alloc w4 (.cells #[.int .i64 0, .string ⟨#[]⟩, .int .i64 0, .int .i64 0, .int .i64 0, .int .i64 0, .int .u16 0, .int .i64 0] 41))).onto hb9
  simp only [hz]
  obtain ⟨gd, hgd⟩ : ∃ gd, w2.heap.size = gd := ⟨_, rfl⟩
  rw [hgd] at htied
  simp only [hgd]
  have HT0 := Lib.hid htied
  clear hb1 hb2 hb3 hb4 hb9 hl2 hs2 HS2 hz hgd htied HD3 HD5
  go_loopw [4, 60] (fun m i wr => ∃ (k d : Nat) (L : List Ev) (last : Int), k ≤ n0 ∧ 0 ≤ last ∧ last ≤ (k : Int) ∧ i = .int .i64 (k : Int) ∧ m = .pointer (some ⟨d, 0, none⟩) ∧ Ted w z d L last wr) (fun _ i _ => n0 - (intOf i).toNat)
  case atStart => exact ⟨0, gd, [], 0, Nat.zero_le _, Int.le_refl _, by simp, rfl, rfl, HT0.out⟩
  case round =>
    obtain ⟨k, d, L, last, hk, h0, h1, rfl, rfl, hT⟩ := hrel
    have HT := Lib.hid hT
    clear HT0 hT
    by_cases hlt : k < n0
    · have hap := HT.out.apart
      have hsz := HT.out.size
      have hlx : L.length ≤ 16 := HT.out.log.len
      obtain ⟨b, off, rfl, hb', hc⟩ := (R.out.below HT.out.below).at 8 rfl hlt
      obtain ⟨s0, s1, s2, s3, s4, s5, s6, s7, hf, hw0, hw1, hw2, hw3, hw4, hw5, hw6, hw7⟩ := cells0 (R.out.fit k hlt)
      have q0 : wr.cell? ⟨b, off + k * 8, none⟩ = some (.int .i64 s0) := hc 0 _ (by rw [hf]; rfl)
      have q1 : wr.cell? ⟨b, off + k * 8 + 1, none⟩ = some (.string s1) := hc 1 _ (by rw [hf]; rfl)
      have q2 : wr.cell? ⟨b, off + k * 8 + 2, none⟩ = some (.int .i64 s2) := hc 2 _ (by rw [hf]; rfl)
      have q3 : wr.cell? ⟨b, off + k * 8 + 3, none⟩ = some (.int .i64 s3) := hc 3 _ (by rw [hf]; rfl)
      have q4 : wr.cell? ⟨b, off + k * 8 + 4, none⟩ = some (.int .i64 s4) := hc 4 _ (by rw [hf]; rfl)
      have q5 : wr.cell? ⟨b, off + k * 8 + 5, none⟩ = some (.int .i64 s5) := hc 5 _ (by rw [hf]; rfl)
      have q6 : wr.cell? ⟨b, off + k * 8 + 6, none⟩ = some (.int .u16 s6) := hc 6 _ (by rw [hf]; rfl)
      have q7 : wr.cell? ⟨b, off + k * 8 + 7, none⟩ = some (.int .i64 s7) := hc 7 _ (by rw [hf]; rfl)
      have ew := IntWalk.i64_in ((k : Int) + 1) (by omega)
      have HT1 := Lib.hid (HT.out.onto (below_alloc wr (.cells #[.int .i64 s0, .string s1, .int .i64 s2, .int .i64 s3, .int .i64 s4, .int .i64 s5, .int .u16 s6, .int .i64 s7] 47)))
      clear hc hf HT hw0 hw2 hw3 hw4 hw5 hw6 hw7 hb'
      by_cases hl1 : 1000 < s1.size
      · have d1 : decide (1000 < (s1.size : Int)) = true := decide_eq_true (by omega)
        have d2 : decide (1000 < s1.size) = true := decide_eq_true hl1
        go_wp2
        go_ret
        exact ⟨rfl, HT1.out.below⟩
      have d1 : decide (1000 < (s1.size : Int)) = false := decide_eq_false (by omega)
      have d2 : decide (1000 < s1.size) = false := decide_eq_false hl1
      have hs1000 : s1.size ≤ 1000 := by omega
      by_cases hs : s0 = 0
      · rcases good_ways (⟨last + 1, s1, s2, s3, s4, s5, s6, s7⟩ : Ev) _ _ _ _ _ _ _ HT1.out.log h0 (by omega) rfl with hg | ⟨hg, hlf⟩ | ⟨hg, hlf⟩
        · clear hlx
          have hst : s0 = 0 := hs
          subst hst
          have HO := Lib.hid (Holds.new wr 47 #[.int .i64 0, .string s1, .int .i64 s2, .int .i64 s3, .int .i64 s4, .int .i64 s5, .int .u16 s6, .int .i64 s7])
          have hcq : wr.heap.size < (wr.alloc (.cells #[.int .i64 0, .string s1, .int .i64 s2, .int .i64 s3, .int .i64 s4, .int .i64 s5, .int .u16 s6, .int .i64 s7] 47)).heap.size := by simp
          have ht := tag_bad (⟨last + 1, s1, s2, s3, s4, s5, s6, s7⟩ : Ev) (wr.alloc (.cells #[.int .i64 0, .string s1, .int .i64 s2, .int .i64 s3, .int .i64 s4, .int .i64 s5, .int .u16 s6, .int .i64 s7] 47)) (z + 2) hg
          have hdt := fun W (h : Dl W (d + 1) d L last) => dtag_bad (⟨last + 1, s1, s2, s3, s4, s5, s6, s7⟩ : Ev) W d hg hs1000
          dsimp only at ht hdt
          go_upto_region 22 with (first
            | (go_at_call 9; (with_reducible refine ht.mono ?_); rintro e w4 ⟨rfl, hb5⟩; have HT4 := Lib.hid (HT1.out.onto hb5); have HO4 := Lib.hid (HO.out.below hb5 HO.out.lt); have o1 := HO4.out.cell 1; clear hb5)
            | (go_at_call 13; (with_reducible refine (hdt _ HT4.out.doc).mono ?_); rintro e w5 ⟨rfl, hw5⟩; subst w5))
          obtain ⟨cq, hcqe⟩ : ∃ cq, wr.heap.size = cq := ⟨_, rfl⟩
          simp only [hcqe] at HO4 ⊢
          clear hcqe HT1 HO ht hdt o1 hcq
          have hbd : Below w4.heap.size w4 w4.drew := below_drewN (Below.refl _ _) 1
          have hgood := good_any s1 w4.drew
          have hrgood := fun W => rgood_any s1 W hs1000
          rw [hg] at hgood
          simp only [hg] at hrgood
          have HTd := Lib.hid (HT4.out.onto hbd)
          have HOd : Hid (Holds w4.drew cq 47 _) := Lib.hid (HO4.out.below hbd HO4.out.lt)
          have oc : w4.drew.cell? ⟨cq, 1, none⟩ = some (.string s1) := HOd.out.cell 1
          clear HT4 hbd
          refine region_turns (fun (w' : World) => w'.cell? ⟨cq, 1, none⟩ = some (.string s1)) (fun j => decide (17 ≤ j)) (by kernel_rfl) (oc) (fun hS => ?_)
          refine Turns.take hS 0 _ rfl (by kernel_rfl) (by kernel_rfl) (by kernel_rfl) (by kernel_rfl) (fun _ _ _ h => h) (by rfl) (fun w' hS' => by (try dsimp only at hS'); go_split_ands; go_simp; (try with_reducible rfl)) ?_
          simp only [Act.put, List.getElem_toArray, List.getElem_cons_succ, List.getElem_cons_zero, List.setIfInBounds_toArray, List.set_cons_zero, List.set_cons_succ]
          refine Turns.take hS 1 _ rfl (by kernel_rfl) (by kernel_rfl) (by kernel_rfl) (by kernel_rfl) (fun _ _ _ h => h) (by rfl) (fun w' hS' => by (try dsimp only at hS'); go_split_ands; go_simp; (try with_reducible rfl)) ?_
          simp only [Act.put, List.getElem_toArray, List.getElem_cons_succ, List.getElem_cons_zero, List.setIfInBounds_toArray, List.set_cons_zero, List.set_cons_succ]
          refine Turns.take hS 2 _ rfl (by kernel_rfl) (by kernel_rfl) (by kernel_rfl) (by kernel_rfl) (fun _ _ _ h => h) (by rfl) (fun w' hS' => by (try dsimp only at hS'); go_split_ands; go_simp; (try with_reducible rfl)) ?_
          simp only [Act.put, List.getElem_toArray, List.getElem_cons_succ, List.getElem_cons_zero, List.setIfInBounds_toArray, List.set_cons_zero, List.set_cons_succ]
          refine Turns.take hS 3 _ rfl (by kernel_rfl) (by kernel_rfl) (by kernel_rfl) (by kernel_rfl) (fun _ _ _ h => h) (by rfl) (fun w' hS' => by (try dsimp only at hS'); go_split_ands; go_simp; (try with_reducible rfl)) ?_
          simp only [Act.put, List.getElem_toArray, List.getElem_cons_succ, List.getElem_cons_zero, List.setIfInBounds_toArray, List.set_cons_zero, List.set_cons_succ]
          refine Turns.take hS 4 _ rfl (by kernel_rfl) (by kernel_rfl) (by kernel_rfl) (by kernel_rfl) (fun _ _ _ h => h) (by rfl) (fun w' hS' => by (try dsimp only at hS'); go_split_ands; go_simp; (try with_reducible rfl)) ?_
          simp only [Act.put, List.getElem_toArray, List.getElem_cons_succ, List.getElem_cons_zero, List.setIfInBounds_toArray, List.set_cons_zero, List.set_cons_succ]
          refine Turns.take hS 5 _ rfl (by kernel_rfl) (by kernel_rfl) (by kernel_rfl) (by kernel_rfl) (fun _ _ _ h => h) (by rfl) (fun w' hS' => by (try dsimp only at hS'); go_split_ands; go_simp; (try with_reducible rfl)) ?_
          simp only [Act.put, List.getElem_toArray, List.getElem_cons_succ, List.getElem_cons_zero, List.setIfInBounds_toArray, List.set_cons_zero, List.set_cons_succ]
          refine Turns.take hS 6 _ rfl (by kernel_rfl) (by kernel_rfl) (by kernel_rfl) (by kernel_rfl) (fun _ _ _ h => h) (by rfl) (fun w' hS' => by (try dsimp only at hS'); go_split_ands; go_simp; (try with_reducible rfl)) ?_
          simp only [Act.put, List.getElem_toArray, List.getElem_cons_succ, List.getElem_cons_zero, List.setIfInBounds_toArray, List.set_cons_zero, List.set_cons_succ]
          refine Turns.take hS 7 _ rfl (by kernel_rfl) (by kernel_rfl) (by kernel_rfl) (by kernel_rfl) (fun _ _ _ h => h) (by rfl) (fun w' hS' => by (try dsimp only at hS'); go_split_ands; go_simp; (try with_reducible rfl)) ?_
          simp only [Act.put, List.getElem_toArray, List.getElem_cons_succ, List.getElem_cons_zero, List.setIfInBounds_toArray, List.set_cons_zero, List.set_cons_succ]
          refine Turns.take hS 8 _ rfl (by kernel_rfl) (by kernel_rfl) (by kernel_rfl) (by kernel_rfl) (fun _ _ _ h => h) (by rfl) (fun w' hS' => by (try dsimp only at hS'); go_split_ands; go_simp; (try with_reducible rfl)) ?_
          simp only [Act.put, List.getElem_toArray, List.getElem_cons_succ, List.getElem_cons_zero, List.setIfInBounds_toArray, List.set_cons_zero, List.set_cons_succ]
          refine Turns.take hS 9 _ rfl (by kernel_rfl) (by kernel_rfl) (by kernel_rfl) (by kernel_rfl) (fun _ _ _ h => h) (by rfl) (fun w' hS' => by (try dsimp only at hS'); go_split_ands; go_simp; (try with_reducible rfl)) ?_
          simp only [Act.put, List.getElem_toArray, List.getElem_cons_succ, List.getElem_cons_zero, List.setIfInBounds_toArray, List.set_cons_zero, List.set_cons_succ]
          refine Turns.take hS 10 _ rfl (by kernel_rfl) (by kernel_rfl) (by kernel_rfl) (by kernel_rfl) (fun _ _ _ h => h) (by rfl) (fun w' hS' => by (try dsimp only at hS'); go_split_ands; go_simp; (try with_reducible rfl)) ?_
          simp only [Act.put, List.getElem_toArray, List.getElem_cons_succ, List.getElem_cons_zero, List.setIfInBounds_toArray, List.set_cons_zero, List.set_cons_succ]
          refine Turns.take hS 12 _ rfl (by kernel_rfl) (by kernel_rfl) (by kernel_rfl) (by kernel_rfl) (fun _ _ _ h => h) (by rfl) (fun w' hS' => by (try dsimp only at hS'); go_split_ands; go_simp; (try with_reducible rfl)) ?_
          simp only [Act.put, List.getElem_toArray, List.getElem_cons_succ, List.getElem_cons_zero, List.setIfInBounds_toArray, List.set_cons_zero, List.set_cons_succ]
          refine Turns.take hS 13 _ rfl (by kernel_rfl) (by kernel_rfl) (by kernel_rfl) (by kernel_rfl) (fun _ _ _ h => h) (by rfl) (fun w' hS' => by (try dsimp only at hS'); go_split_ands; go_simp; (try with_reducible rfl)) ?_
          simp only [Act.put, List.getElem_toArray, List.getElem_cons_succ, List.getElem_cons_zero, List.setIfInBounds_toArray, List.set_cons_zero, List.set_cons_succ]
          refine Turns.next 11 rfl (by kernel_rfl) (by rfl) (fun K hK => ?_)
          go_simp
          refine hgood.mono ?_
          rintro e w6 ⟨rfl, hb6⟩
          have HT6 := Lib.hid (HTd.out.onto hb6)
          have HO6 := Lib.hid (HOd.out.below hb6 HOd.out.lt)
          refine hK.out _ _ (show (fun (w' : World) => w'.cell? ⟨cq, 1, none⟩ = some (.string s1)) _ from HO6.out.cell 1) ?_
          clear hK K hS
          have hS := (show (fun (w' : World) => w'.cell? ⟨cq, 1, none⟩ = some (.string s1)) _ from HO6.out.cell 1)
          refine Turns.next 14 rfl (by kernel_rfl) (by rfl) (fun K hK => ?_)
          go_simp
          refine (hrgood _).mono ?_
          rintro e w7 ⟨rfl, hw7⟩
          subst w7
          refine hK.out _ _ (show (fun (w' : World) => w'.cell? ⟨cq, 1, none⟩ = some (.string s1)) _ from HO6.out.cell 1) ?_
          clear hK K hS
          have hS := (show (fun (w' : World) => w'.cell? ⟨cq, 1, none⟩ = some (.string s1)) _ from HO6.out.cell 1)
          refine Turns.take hS 15 _ rfl (by kernel_rfl) (by kernel_rfl) (by kernel_rfl) (by kernel_rfl) (fun _ _ _ h => h) (by rfl) (fun w' hS' => by (try dsimp only at hS'); go_split_ands; go_simp; (try with_reducible rfl)) ?_
          simp only [Act.put, List.getElem_toArray, List.getElem_cons_succ, List.getElem_cons_zero, List.setIfInBounds_toArray, List.set_cons_zero, List.set_cons_succ]
          refine Turns.take hS 16 _ rfl (by kernel_rfl) (by kernel_rfl) (by kernel_rfl) (by kernel_rfl) (fun _ _ _ h => h) (by rfl) (fun w' hS' => by (try dsimp only at hS'); go_split_ands; go_simp; (try with_reducible rfl)) ?_
          simp only [Act.put, List.getElem_toArray, List.getElem_cons_succ, List.getElem_cons_zero, List.setIfInBounds_toArray, List.set_cons_zero, List.set_cons_succ]
          refine Turns.rest (late_done (by kernel_rfl)) ?_
          refine any_tail 17 (by rfl) (by kernel_rfl) ?_
          simp only [List.drop_succ_cons, List.drop_zero]
          clear hS
          obtain ⟨w4, rfl⟩ : ∃ w4, w4 = w6 := ⟨_, rfl⟩
          have HT4 := HT6
          clear HT6 HTd HOd HO6 HO4 hgood hrgood oc
          obtain ⟨d4, rfl⟩ : ∃ d4, d4 = d := ⟨_, rfl⟩
          obtain ⟨L4, rfl⟩ : ∃ L4, L4 = L := ⟨_, rfl⟩
          obtain ⟨last4, rfl⟩ : ∃ last4, last4 = last := ⟨_, rfl⟩
          have h04 := h0
          have h14 : last4 ≤ ((k + 1 : Nat) : Int) := by omega
          have hsame := HT4.out.same
          go_wp2_with (go_at_call 12; (with_reducible refine hsame.mono ?_); rintro e w8 ⟨rfl, hb8⟩; have HT8 := Lib.hid (HT4.out.onto hb8); clear hb8)
          go_roundw
          case rel => exact ⟨k + 1, d4, L4, last4, by omega, h04, h14, by go_num, rfl, HT8.out⟩
          case measure => simp [intOf]; omega
        · clear hlx
          have hst : s0 = 0 := hs
          subst hst
          have HO := Lib.hid (Holds.new wr 47 #[.int .i64 0, .string s1, .int .i64 s2, .int .i64 s3, .int .i64 s4, .int .i64 s5, .int .u16 s6, .int .i64 s7])
          have hcq : wr.heap.size < (wr.alloc (.cells #[.int .i64 0, .string s1, .int .i64 s2, .int .i64 s3, .int .i64 s4, .int .i64 s5, .int .u16 s6, .int .i64 s7] 47)).heap.size := by simp
          have ht := tag_full (⟨last + 1, s1, s2, s3, s4, s5, s6, s7⟩ : Ev) _ _ _ _ _ _ _ HT1.out.log hg (by omega) (by omega) rfl hlf
          have hdt := fun W (h : Dl W (d + 1) d L last) => dtag_full (⟨last + 1, s1, s2, s3, s4, s5, s6, s7⟩ : Ev) W (d + 1) d L last h hg hs1000 hlf
          dsimp only at ht hdt
          go_upto_region 22 with (first
            | (go_at_call 9; (with_reducible refine ht.mono ?_); rintro e w4 ⟨rfl, hb5⟩; have HT4 := Lib.hid (HT1.out.onto hb5); have HO4 := Lib.hid (HO.out.below hb5 HO.out.lt); have o1 := HO4.out.cell 1; clear hb5)
            | (go_at_call 13; (with_reducible refine (hdt _ HT4.out.doc).mono ?_); rintro e w5 ⟨rfl, hw5⟩; subst w5))
          obtain ⟨cq, hcqe⟩ : ∃ cq, wr.heap.size = cq := ⟨_, rfl⟩
          simp only [hcqe] at HO4 ⊢
          clear hcqe HT1 HO ht hdt o1 hcq
          have hbd : Below w4.heap.size w4 w4.drew := below_drewN (Below.refl _ _) 1
          have hgood := good_any s1 w4.drew
          have hrgood := fun W => rgood_any s1 W hs1000
          rw [hg] at hgood
          simp only [hg] at hrgood
          have HTd := Lib.hid (HT4.out.onto hbd)
          have HOd : Hid (Holds w4.drew cq 47 _) := Lib.hid (HO4.out.below hbd HO4.out.lt)
          have oc : w4.drew.cell? ⟨cq, 1, none⟩ = some (.string s1) := HOd.out.cell 1
          clear HT4 hbd
          refine region_turns (fun (w' : World) => w'.cell? ⟨cq, 1, none⟩ = some (.string s1)) (fun j => decide (17 ≤ j)) (by kernel_rfl) (oc) (fun hS => ?_)
          refine Turns.take hS 0 _ rfl (by kernel_rfl) (by kernel_rfl) (by kernel_rfl) (by kernel_rfl) (fun _ _ _ h => h) (by rfl) (fun w' hS' => by (try dsimp only at hS'); go_split_ands; go_simp; (try with_reducible rfl)) ?_
          simp only [Act.put, List.getElem_toArray, List.getElem_cons_succ, List.getElem_cons_zero, List.setIfInBounds_toArray, List.set_cons_zero, List.set_cons_succ]
          refine Turns.take hS 1 _ rfl (by kernel_rfl) (by kernel_rfl) (by kernel_rfl) (by kernel_rfl) (fun _ _ _ h => h) (by rfl) (fun w' hS' => by (try dsimp only at hS'); go_split_ands; go_simp; (try with_reducible rfl)) ?_
          simp only [Act.put, List.getElem_toArray, List.getElem_cons_succ, List.getElem_cons_zero, List.setIfInBounds_toArray, List.set_cons_zero, List.set_cons_succ]
          refine Turns.take hS 2 _ rfl (by kernel_rfl) (by kernel_rfl) (by kernel_rfl) (by kernel_rfl) (fun _ _ _ h => h) (by rfl) (fun w' hS' => by (try dsimp only at hS'); go_split_ands; go_simp; (try with_reducible rfl)) ?_
          simp only [Act.put, List.getElem_toArray, List.getElem_cons_succ, List.getElem_cons_zero, List.setIfInBounds_toArray, List.set_cons_zero, List.set_cons_succ]
          refine Turns.take hS 3 _ rfl (by kernel_rfl) (by kernel_rfl) (by kernel_rfl) (by kernel_rfl) (fun _ _ _ h => h) (by rfl) (fun w' hS' => by (try dsimp only at hS'); go_split_ands; go_simp; (try with_reducible rfl)) ?_
          simp only [Act.put, List.getElem_toArray, List.getElem_cons_succ, List.getElem_cons_zero, List.setIfInBounds_toArray, List.set_cons_zero, List.set_cons_succ]
          refine Turns.take hS 4 _ rfl (by kernel_rfl) (by kernel_rfl) (by kernel_rfl) (by kernel_rfl) (fun _ _ _ h => h) (by rfl) (fun w' hS' => by (try dsimp only at hS'); go_split_ands; go_simp; (try with_reducible rfl)) ?_
          simp only [Act.put, List.getElem_toArray, List.getElem_cons_succ, List.getElem_cons_zero, List.setIfInBounds_toArray, List.set_cons_zero, List.set_cons_succ]
          refine Turns.take hS 5 _ rfl (by kernel_rfl) (by kernel_rfl) (by kernel_rfl) (by kernel_rfl) (fun _ _ _ h => h) (by rfl) (fun w' hS' => by (try dsimp only at hS'); go_split_ands; go_simp; (try with_reducible rfl)) ?_
          simp only [Act.put, List.getElem_toArray, List.getElem_cons_succ, List.getElem_cons_zero, List.setIfInBounds_toArray, List.set_cons_zero, List.set_cons_succ]
          refine Turns.take hS 6 _ rfl (by kernel_rfl) (by kernel_rfl) (by kernel_rfl) (by kernel_rfl) (fun _ _ _ h => h) (by rfl) (fun w' hS' => by (try dsimp only at hS'); go_split_ands; go_simp; (try with_reducible rfl)) ?_
          simp only [Act.put, List.getElem_toArray, List.getElem_cons_succ, List.getElem_cons_zero, List.setIfInBounds_toArray, List.set_cons_zero, List.set_cons_succ]
          refine Turns.take hS 7 _ rfl (by kernel_rfl) (by kernel_rfl) (by kernel_rfl) (by kernel_rfl) (fun _ _ _ h => h) (by rfl) (fun w' hS' => by (try dsimp only at hS'); go_split_ands; go_simp; (try with_reducible rfl)) ?_
          simp only [Act.put, List.getElem_toArray, List.getElem_cons_succ, List.getElem_cons_zero, List.setIfInBounds_toArray, List.set_cons_zero, List.set_cons_succ]
          refine Turns.take hS 8 _ rfl (by kernel_rfl) (by kernel_rfl) (by kernel_rfl) (by kernel_rfl) (fun _ _ _ h => h) (by rfl) (fun w' hS' => by (try dsimp only at hS'); go_split_ands; go_simp; (try with_reducible rfl)) ?_
          simp only [Act.put, List.getElem_toArray, List.getElem_cons_succ, List.getElem_cons_zero, List.setIfInBounds_toArray, List.set_cons_zero, List.set_cons_succ]
          refine Turns.take hS 9 _ rfl (by kernel_rfl) (by kernel_rfl) (by kernel_rfl) (by kernel_rfl) (fun _ _ _ h => h) (by rfl) (fun w' hS' => by (try dsimp only at hS'); go_split_ands; go_simp; (try with_reducible rfl)) ?_
          simp only [Act.put, List.getElem_toArray, List.getElem_cons_succ, List.getElem_cons_zero, List.setIfInBounds_toArray, List.set_cons_zero, List.set_cons_succ]
          refine Turns.take hS 10 _ rfl (by kernel_rfl) (by kernel_rfl) (by kernel_rfl) (by kernel_rfl) (fun _ _ _ h => h) (by rfl) (fun w' hS' => by (try dsimp only at hS'); go_split_ands; go_simp; (try with_reducible rfl)) ?_
          simp only [Act.put, List.getElem_toArray, List.getElem_cons_succ, List.getElem_cons_zero, List.setIfInBounds_toArray, List.set_cons_zero, List.set_cons_succ]
          refine Turns.take hS 12 _ rfl (by kernel_rfl) (by kernel_rfl) (by kernel_rfl) (by kernel_rfl) (fun _ _ _ h => h) (by rfl) (fun w' hS' => by (try dsimp only at hS'); go_split_ands; go_simp; (try with_reducible rfl)) ?_
          simp only [Act.put, List.getElem_toArray, List.getElem_cons_succ, List.getElem_cons_zero, List.setIfInBounds_toArray, List.set_cons_zero, List.set_cons_succ]
          refine Turns.take hS 13 _ rfl (by kernel_rfl) (by kernel_rfl) (by kernel_rfl) (by kernel_rfl) (fun _ _ _ h => h) (by rfl) (fun w' hS' => by (try dsimp only at hS'); go_split_ands; go_simp; (try with_reducible rfl)) ?_
          simp only [Act.put, List.getElem_toArray, List.getElem_cons_succ, List.getElem_cons_zero, List.setIfInBounds_toArray, List.set_cons_zero, List.set_cons_succ]
          refine Turns.next 11 rfl (by kernel_rfl) (by rfl) (fun K hK => ?_)
          go_simp
          refine hgood.mono ?_
          rintro e w6 ⟨rfl, hb6⟩
          have HT6 := Lib.hid (HTd.out.onto hb6)
          have HO6 := Lib.hid (HOd.out.below hb6 HOd.out.lt)
          refine hK.out _ _ (show (fun (w' : World) => w'.cell? ⟨cq, 1, none⟩ = some (.string s1)) _ from HO6.out.cell 1) ?_
          clear hK K hS
          have hS := (show (fun (w' : World) => w'.cell? ⟨cq, 1, none⟩ = some (.string s1)) _ from HO6.out.cell 1)
          refine Turns.next 14 rfl (by kernel_rfl) (by rfl) (fun K hK => ?_)
          go_simp
          refine (hrgood _).mono ?_
          rintro e w7 ⟨rfl, hw7⟩
          subst w7
          refine hK.out _ _ (show (fun (w' : World) => w'.cell? ⟨cq, 1, none⟩ = some (.string s1)) _ from HO6.out.cell 1) ?_
          clear hK K hS
          have hS := (show (fun (w' : World) => w'.cell? ⟨cq, 1, none⟩ = some (.string s1)) _ from HO6.out.cell 1)
          refine Turns.take hS 15 _ rfl (by kernel_rfl) (by kernel_rfl) (by kernel_rfl) (by kernel_rfl) (fun _ _ _ h => h) (by rfl) (fun w' hS' => by (try dsimp only at hS'); go_split_ands; go_simp; (try with_reducible rfl)) ?_
          simp only [Act.put, List.getElem_toArray, List.getElem_cons_succ, List.getElem_cons_zero, List.setIfInBounds_toArray, List.set_cons_zero, List.set_cons_succ]
          refine Turns.take hS 16 _ rfl (by kernel_rfl) (by kernel_rfl) (by kernel_rfl) (by kernel_rfl) (fun _ _ _ h => h) (by rfl) (fun w' hS' => by (try dsimp only at hS'); go_split_ands; go_simp; (try with_reducible rfl)) ?_
          simp only [Act.put, List.getElem_toArray, List.getElem_cons_succ, List.getElem_cons_zero, List.setIfInBounds_toArray, List.set_cons_zero, List.set_cons_succ]
          refine Turns.rest (late_done (by kernel_rfl)) ?_
          refine any_tail 17 (by rfl) (by kernel_rfl) ?_
          simp only [List.drop_succ_cons, List.drop_zero]
          clear hS
          obtain ⟨w4, rfl⟩ : ∃ w4, w4 = w6 := ⟨_, rfl⟩
          have HT4 := HT6
          clear HT6 HTd HOd HO6 HO4 hgood hrgood oc
          obtain ⟨d4, rfl⟩ : ∃ d4, d4 = d := ⟨_, rfl⟩
          obtain ⟨L4, rfl⟩ : ∃ L4, L4 = L := ⟨_, rfl⟩
          obtain ⟨last4, rfl⟩ : ∃ last4, last4 = last := ⟨_, rfl⟩
          have h04 := h0
          have h14 : last4 ≤ ((k + 1 : Nat) : Int) := by omega
          have hsame := HT4.out.same
          go_wp2_with (go_at_call 12; (with_reducible refine hsame.mono ?_); rintro e w8 ⟨rfl, hb8⟩; have HT8 := Lib.hid (HT4.out.onto hb8); clear hb8)
          go_roundw
          case rel => exact ⟨k + 1, d4, L4, last4, by omega, h04, h14, by go_num, rfl, HT8.out⟩
          case measure => simp [intOf]; omega
        · clear hlx
          have hst : s0 = 0 := hs
          subst hst
          have HO := Lib.hid (Holds.new wr 47 #[.int .i64 0, .string s1, .int .i64 s2, .int .i64 s3, .int .i64 s4, .int .i64 s5, .int .u16 s6, .int .i64 s7])
          have hcq : wr.heap.size < (wr.alloc (.cells #[.int .i64 0, .string s1, .int .i64 s2, .int .i64 s3, .int .i64 s4, .int .i64 s5, .int .u16 s6, .int .i64 s7] 47)).heap.size := by simp
          obtain ⟨u, hu⟩ : ∃ u, last + 1 = u := ⟨_, rfl⟩
          have HU := Lib.hid hu
          have ht := tag_any (⟨u, s1, s2, s3, s4, s5, s6, s7⟩ : Ev) _ _ _ _ _ _ _ HT1.out.log hg (by omega) (by omega) hu.symm hlf
          have hdt := fun W (h : Dl W (d + 1) d L last) hB => dtag_any (⟨u, s1, s2, s3, s4, s5, s6, s7⟩ : Ev) W (d + 1) d L last h hg hs1000 hlf (by omega) (by omega) hu.symm (Nat.lt_succ_self _) hB
          dsimp only at ht hdt
          clear hu
          go_upto_region 22 with (first
            | (go_at_call 9; (with_reducible refine ht.mono ?_); rintro e w5 ⟨rfl, hl5, hc5⟩; have HT5 := Lib.hid (HT1.out.stepP hl5 hc5); have HO5 := Lib.hid (HO.out.chg hc5 (fun hp => by have := lpart_lt _ hp; omega)); have o1 := HO5.out.cell 1; clear hl5 hc5)
            | (go_at_call 13; (with_reducible refine (hdt _ HT5.out.doc HT5.out.size).mono ?_); rintro e w4 ⟨rfl, hd4, hc4⟩; have HT4 := Lib.hid (HT5.out.stepD hd4 hc4); have HO4 := Lib.hid (HO5.out.chg hc4 (by omega)); clear hd4 hc4))
          obtain ⟨cq, hcqe⟩ : ∃ cq, wr.heap.size = cq := ⟨_, rfl⟩
          simp only [hcqe] at HO4 ⊢
          have huu : (u != u) = false := by simp
          clear hcqe HT5 HO5 HT1 HO ht hdt o1 hcq
          have hbd : Below w4.heap.size w4 w4.drew := below_drewN (Below.refl _ _) 1
          have hgood := good_any s1 w4.drew
          have hrgood := fun W => rgood_any s1 W hs1000
          rw [hg] at hgood
          simp only [hg] at hrgood
          have HTd := Lib.hid (HT4.out.onto hbd)
          have HOd : Hid (Holds w4.drew cq 47 _) := Lib.hid (HO4.out.below hbd HO4.out.lt)
          have oc : w4.drew.cell? ⟨cq, 1, none⟩ = some (.string s1) := HOd.out.cell 1
          clear HT4 hbd
          refine region_turns (fun (w' : World) => w'.cell? ⟨cq, 1, none⟩ = some (.string s1)) (fun j => decide (17 ≤ j)) (by kernel_rfl) (oc) (fun hS => ?_)
          refine Turns.take hS 0 _ rfl (by kernel_rfl) (by kernel_rfl) (by kernel_rfl) (by kernel_rfl) (fun _ _ _ h => h) (by rfl) (fun w' hS' => by (try dsimp only at hS'); go_split_ands; go_simp; (try with_reducible rfl)) ?_
          simp only [Act.put, List.getElem_toArray, List.getElem_cons_succ, List.getElem_cons_zero, List.setIfInBounds_toArray, List.set_cons_zero, List.set_cons_succ]
          refine Turns.take hS 1 _ rfl (by kernel_rfl) (by kernel_rfl) (by kernel_rfl) (by kernel_rfl) (fun _ _ _ h => h) (by rfl) (fun w' hS' => by (try dsimp only at hS'); go_split_ands; go_simp; (try with_reducible rfl)) ?_
          simp only [Act.put, List.getElem_toArray, List.getElem_cons_succ, List.getElem_cons_zero, List.setIfInBounds_toArray, List.set_cons_zero, List.set_cons_succ]
          refine Turns.take hS 2 _ rfl (by kernel_rfl) (by kernel_rfl) (by kernel_rfl) (by kernel_rfl) (fun _ _ _ h => h) (by rfl) (fun w' hS' => by (try dsimp only at hS'); go_split_ands; go_simp; (try with_reducible rfl)) ?_
          simp only [Act.put, List.getElem_toArray, List.getElem_cons_succ, List.getElem_cons_zero, List.setIfInBounds_toArray, List.set_cons_zero, List.set_cons_succ]
          refine Turns.take hS 3 _ rfl (by kernel_rfl) (by kernel_rfl) (by kernel_rfl) (by kernel_rfl) (fun _ _ _ h => h) (by rfl) (fun w' hS' => by (try dsimp only at hS'); go_split_ands; go_simp; (try with_reducible rfl)) ?_
          simp only [Act.put, List.getElem_toArray, List.getElem_cons_succ, List.getElem_cons_zero, List.setIfInBounds_toArray, List.set_cons_zero, List.set_cons_succ]
          refine Turns.take hS 4 _ rfl (by kernel_rfl) (by kernel_rfl) (by kernel_rfl) (by kernel_rfl) (fun _ _ _ h => h) (by rfl) (fun w' hS' => by (try dsimp only at hS'); go_split_ands; go_simp; (try with_reducible rfl)) ?_
          simp only [Act.put, List.getElem_toArray, List.getElem_cons_succ, List.getElem_cons_zero, List.setIfInBounds_toArray, List.set_cons_zero, List.set_cons_succ]
          refine Turns.take hS 5 _ rfl (by kernel_rfl) (by kernel_rfl) (by kernel_rfl) (by kernel_rfl) (fun _ _ _ h => h) (by rfl) (fun w' hS' => by (try dsimp only at hS'); go_split_ands; go_simp; (try with_reducible rfl)) ?_
          simp only [Act.put, List.getElem_toArray, List.getElem_cons_succ, List.getElem_cons_zero, List.setIfInBounds_toArray, List.set_cons_zero, List.set_cons_succ]
          refine Turns.take hS 6 _ rfl (by kernel_rfl) (by kernel_rfl) (by kernel_rfl) (by kernel_rfl) (fun _ _ _ h => h) (by rfl) (fun w' hS' => by (try dsimp only at hS'); go_split_ands; go_simp; (try with_reducible rfl)) ?_
          simp only [Act.put, List.getElem_toArray, List.getElem_cons_succ, List.getElem_cons_zero, List.setIfInBounds_toArray, List.set_cons_zero, List.set_cons_succ]
          refine Turns.take hS 7 _ rfl (by kernel_rfl) (by kernel_rfl) (by kernel_rfl) (by kernel_rfl) (fun _ _ _ h => h) (by rfl) (fun w' hS' => by (try dsimp only at hS'); go_split_ands; go_simp; (try with_reducible rfl)) ?_
          simp only [Act.put, List.getElem_toArray, List.getElem_cons_succ, List.getElem_cons_zero, List.setIfInBounds_toArray, List.set_cons_zero, List.set_cons_succ]
          refine Turns.take hS 8 _ rfl (by kernel_rfl) (by kernel_rfl) (by kernel_rfl) (by kernel_rfl) (fun _ _ _ h => h) (by rfl) (fun w' hS' => by (try dsimp only at hS'); go_split_ands; go_simp; (try with_reducible rfl)) ?_
          simp only [Act.put, List.getElem_toArray, List.getElem_cons_succ, List.getElem_cons_zero, List.setIfInBounds_toArray, List.set_cons_zero, List.set_cons_succ]
          refine Turns.take hS 9 _ rfl (by kernel_rfl) (by kernel_rfl) (by kernel_rfl) (by kernel_rfl) (fun _ _ _ h => h) (by rfl) (fun w' hS' => by (try dsimp only at hS'); go_split_ands; go_simp; (try with_reducible rfl)) ?_
          simp only [Act.put, List.getElem_toArray, List.getElem_cons_succ, List.getElem_cons_zero, List.setIfInBounds_toArray, List.set_cons_zero, List.set_cons_succ]
          refine Turns.take hS 10 _ rfl (by kernel_rfl) (by kernel_rfl) (by kernel_rfl) (by kernel_rfl) (fun _ _ _ h => h) (by rfl) (fun w' hS' => by (try dsimp only at hS'); go_split_ands; go_simp; (try with_reducible rfl)) ?_
          simp only [Act.put, List.getElem_toArray, List.getElem_cons_succ, List.getElem_cons_zero, List.setIfInBounds_toArray, List.set_cons_zero, List.set_cons_succ]
          refine Turns.take hS 12 _ rfl (by kernel_rfl) (by kernel_rfl) (by kernel_rfl) (by kernel_rfl) (fun _ _ _ h => h) (by rfl) (fun w' hS' => by (try dsimp only at hS'); go_split_ands; go_simp; (try with_reducible rfl)) ?_
          simp only [Act.put, List.getElem_toArray, List.getElem_cons_succ, List.getElem_cons_zero, List.setIfInBounds_toArray, List.set_cons_zero, List.set_cons_succ]
          refine Turns.take hS 13 _ rfl (by kernel_rfl) (by kernel_rfl) (by kernel_rfl) (by kernel_rfl) (fun _ _ _ h => h) (by rfl) (fun w' hS' => by (try dsimp only at hS'); go_split_ands; go_simp; (try with_reducible rfl)) ?_
          simp only [Act.put, List.getElem_toArray, List.getElem_cons_succ, List.getElem_cons_zero, List.setIfInBounds_toArray, List.set_cons_zero, List.set_cons_succ]
          refine Turns.next 11 rfl (by kernel_rfl) (by rfl) (fun K hK => ?_)
          go_simp
          refine hgood.mono ?_
          rintro e w6 ⟨rfl, hb6⟩
          have HT6 := Lib.hid (HTd.out.onto hb6)
          have HO6 := Lib.hid (HOd.out.below hb6 HOd.out.lt)
          refine hK.out _ _ (show (fun (w' : World) => w'.cell? ⟨cq, 1, none⟩ = some (.string s1)) _ from HO6.out.cell 1) ?_
          clear hK K hS
          have hS := (show (fun (w' : World) => w'.cell? ⟨cq, 1, none⟩ = some (.string s1)) _ from HO6.out.cell 1)
          refine Turns.next 14 rfl (by kernel_rfl) (by rfl) (fun K hK => ?_)
          go_simp
          refine (hrgood _).mono ?_
          rintro e w7 ⟨rfl, hw7⟩
          subst w7
          refine hK.out _ _ (show (fun (w' : World) => w'.cell? ⟨cq, 1, none⟩ = some (.string s1)) _ from HO6.out.cell 1) ?_
          clear hK K hS
          have hS := (show (fun (w' : World) => w'.cell? ⟨cq, 1, none⟩ = some (.string s1)) _ from HO6.out.cell 1)
          refine Turns.take hS 15 _ rfl (by kernel_rfl) (by kernel_rfl) (by kernel_rfl) (by kernel_rfl) (fun _ _ _ h => h) (by rfl) (fun w' hS' => by (try dsimp only at hS'); go_split_ands; go_simp; (try with_reducible rfl)) ?_
          simp only [Act.put, List.getElem_toArray, List.getElem_cons_succ, List.getElem_cons_zero, List.setIfInBounds_toArray, List.set_cons_zero, List.set_cons_succ]
          refine Turns.take hS 16 _ rfl (by kernel_rfl) (by kernel_rfl) (by kernel_rfl) (by kernel_rfl) (fun _ _ _ h => h) (by rfl) (fun w' hS' => by (try dsimp only at hS'); go_split_ands; go_simp; (try with_reducible rfl)) ?_
          simp only [Act.put, List.getElem_toArray, List.getElem_cons_succ, List.getElem_cons_zero, List.setIfInBounds_toArray, List.set_cons_zero, List.set_cons_succ]
          refine Turns.rest (late_done (by kernel_rfl)) ?_
          refine any_tail 17 (by rfl) (by kernel_rfl) ?_
          simp only [List.drop_succ_cons, List.drop_zero]
          clear hS
          obtain ⟨w4, rfl⟩ : ∃ w4, w4 = w6 := ⟨_, rfl⟩
          have HT4 := HT6
          clear HT6 HTd HOd HO6 HO4 hgood hrgood oc
          obtain ⟨d4, rfl⟩ : ∃ d4, d4 = d := ⟨_, rfl⟩
          obtain ⟨L4, hL4⟩ : ∃ L4, L ++ [(⟨u, s1, s2, s3, s4, s5, s6, s7⟩ : Ev)] = L4 := ⟨_, rfl⟩
          obtain ⟨last4, rfl⟩ : ∃ last4, last4 = u := ⟨_, rfl⟩
          rw [hL4] at HT4
          have h04 : 0 ≤ last4 := by have := HU.out; omega
          have h14 : last4 ≤ ((k + 1 : Nat) : Int) := by have := HU.out; omega
          (try dsimp only at HT4)
          clear hL4 hlf
          have hsame := HT4.out.same
          go_wp2_with (go_at_call 12; (with_reducible refine hsame.mono ?_); rintro e w8 ⟨rfl, hb8⟩; have HT8 := Lib.hid (HT4.out.onto hb8); clear hb8)
          go_roundw
          case rel => exact ⟨k + 1, d4, L4, last4, by omega, h04, h14, by go_num, rfl, HT8.out⟩
          case measure => simp [intOf]; omega
      have k0 : (s0 == 0) = false := by simpa using hs
      clear hs
      by_cases hs : s0 = 1
      · rcases good_ways (⟨last + 1, s1, s2, s3, s4, s5, s6, s7⟩ : Ev) _ _ _ _ _ _ _ HT1.out.log h0 (by omega) rfl with hg | ⟨hg, hlf⟩ | ⟨hg, hlf⟩
        · clear hlx
          have hst : s0 = 1 := hs
          subst hst
          have HO := Lib.hid (Holds.new wr 47 #[.int .i64 1, .string s1, .int .i64 s2, .int .i64 s3, .int .i64 s4, .int .i64 s5, .int .u16 s6, .int .i64 s7])
          have hcq : wr.heap.size < (wr.alloc (.cells #[.int .i64 1, .string s1, .int .i64 s2, .int .i64 s3, .int .i64 s4, .int .i64 s5, .int .u16 s6, .int .i64 s7] 47)).heap.size := by simp
          have ht := tag_bad (⟨last + 1, s1, s2, s3, s4, s5, s6, s7⟩ : Ev) (wr.alloc (.cells #[.int .i64 1, .string s1, .int .i64 s2, .int .i64 s3, .int .i64 s4, .int .i64 s5, .int .u16 s6, .int .i64 s7] 47)) (z + 2) hg
          have hdt := fun W (h : Dl W (d + 1) d L last) => dtag_bad (⟨last + 1, s1, s2, s3, s4, s5, s6, s7⟩ : Ev) W d hg hs1000
          dsimp only at ht hdt
          go_upto_region 22 with (first
            | (go_at_call 9; (with_reducible refine ht.mono ?_); rintro e w4 ⟨rfl, hb5⟩; have HT4 := Lib.hid (HT1.out.onto hb5); have HO4 := Lib.hid (HO.out.below hb5 HO.out.lt); have o1 := HO4.out.cell 1; clear hb5)
            | (go_at_call 13; (with_reducible refine (hdt _ HT4.out.doc).mono ?_); rintro e w5 ⟨rfl, hw5⟩; subst w5))
          obtain ⟨cq, hcqe⟩ : ∃ cq, wr.heap.size = cq := ⟨_, rfl⟩
          simp only [hcqe] at HO4 ⊢
          clear hcqe HT1 HO ht hdt o1 hcq
          have hbd : Below w4.heap.size w4 w4.drew := below_drewN (Below.refl _ _) 1
          have hgood := good_any s1 w4.drew
          have hrgood := fun W => rgood_any s1 W hs1000
          rw [hg] at hgood
          simp only [hg] at hrgood
          have HTd := Lib.hid (HT4.out.onto hbd)
          have HOd : Hid (Holds w4.drew cq 47 _) := Lib.hid (HO4.out.below hbd HO4.out.lt)
          have oc : w4.drew.cell? ⟨cq, 1, none⟩ = some (.string s1) := HOd.out.cell 1
          clear HT4 hbd
          refine region_turns (fun (w' : World) => w'.cell? ⟨cq, 1, none⟩ = some (.string s1)) (fun j => decide (17 ≤ j)) (by kernel_rfl) (oc) (fun hS => ?_)
          refine Turns.take hS 0 _ rfl (by kernel_rfl) (by kernel_rfl) (by kernel_rfl) (by kernel_rfl) (fun _ _ _ h => h) (by rfl) (fun w' hS' => by (try dsimp only at hS'); go_split_ands; go_simp; (try with_reducible rfl)) ?_
          simp only [Act.put, List.getElem_toArray, List.getElem_cons_succ, List.getElem_cons_zero, List.setIfInBounds_toArray, List.set_cons_zero, List.set_cons_succ]
          refine Turns.take hS 1 _ rfl (by kernel_rfl) (by kernel_rfl) (by kernel_rfl) (by kernel_rfl) (fun _ _ _ h => h) (by rfl) (fun w' hS' => by (try dsimp only at hS'); go_split_ands; go_simp; (try with_reducible rfl)) ?_
          simp only [Act.put, List.getElem_toArray, List.getElem_cons_succ, List.getElem_cons_zero, List.setIfInBounds_toArray, List.set_cons_zero, List.set_cons_succ]
          refine Turns.take hS 2 _ rfl (by kernel_rfl) (by kernel_rfl) (by kernel_rfl) (by kernel_rfl) (fun _ _ _ h => h) (by rfl) (fun w' hS' => by (try dsimp only at hS'); go_split_ands; go_simp; (try with_reducible rfl)) ?_
          simp only [Act.put, List.getElem_toArray, List.getElem_cons_succ, List.getElem_cons_zero, List.setIfInBounds_toArray, List.set_cons_zero, List.set_cons_succ]
          refine Turns.take hS 3 _ rfl (by kernel_rfl) (by kernel_rfl) (by kernel_rfl) (by kernel_rfl) (fun _ _ _ h => h) (by rfl) (fun w' hS' => by (try dsimp only at hS'); go_split_ands; go_simp; (try with_reducible rfl)) ?_
          simp only [Act.put, List.getElem_toArray, List.getElem_cons_succ, List.getElem_cons_zero, List.setIfInBounds_toArray, List.set_cons_zero, List.set_cons_succ]
          refine Turns.take hS 4 _ rfl (by kernel_rfl) (by kernel_rfl) (by kernel_rfl) (by kernel_rfl) (fun _ _ _ h => h) (by rfl) (fun w' hS' => by (try dsimp only at hS'); go_split_ands; go_simp; (try with_reducible rfl)) ?_
          simp only [Act.put, List.getElem_toArray, List.getElem_cons_succ, List.getElem_cons_zero, List.setIfInBounds_toArray, List.set_cons_zero, List.set_cons_succ]
          refine Turns.take hS 5 _ rfl (by kernel_rfl) (by kernel_rfl) (by kernel_rfl) (by kernel_rfl) (fun _ _ _ h => h) (by rfl) (fun w' hS' => by (try dsimp only at hS'); go_split_ands; go_simp; (try with_reducible rfl)) ?_
          simp only [Act.put, List.getElem_toArray, List.getElem_cons_succ, List.getElem_cons_zero, List.setIfInBounds_toArray, List.set_cons_zero, List.set_cons_succ]
          refine Turns.take hS 6 _ rfl (by kernel_rfl) (by kernel_rfl) (by kernel_rfl) (by kernel_rfl) (fun _ _ _ h => h) (by rfl) (fun w' hS' => by (try dsimp only at hS'); go_split_ands; go_simp; (try with_reducible rfl)) ?_
          simp only [Act.put, List.getElem_toArray, List.getElem_cons_succ, List.getElem_cons_zero, List.setIfInBounds_toArray, List.set_cons_zero, List.set_cons_succ]
          refine Turns.take hS 7 _ rfl (by kernel_rfl) (by kernel_rfl) (by kernel_rfl) (by kernel_rfl) (fun _ _ _ h => h) (by rfl) (fun w' hS' => by (try dsimp only at hS'); go_split_ands; go_simp; (try with_reducible rfl)) ?_
          simp only [Act.put, List.getElem_toArray, List.getElem_cons_succ, List.getElem_cons_zero, List.setIfInBounds_toArray, List.set_cons_zero, List.set_cons_succ]
          refine Turns.take hS 8 _ rfl (by kernel_rfl) (by kernel_rfl) (by kernel_rfl) (by kernel_rfl) (fun _ _ _ h => h) (by rfl) (fun w' hS' => by (try dsimp only at hS'); go_split_ands; go_simp; (try with_reducible rfl)) ?_
          simp only [Act.put, List.getElem_toArray, List.getElem_cons_succ, List.getElem_cons_zero, List.setIfInBounds_toArray, List.set_cons_zero, List.set_cons_succ]
          refine Turns.take hS 9 _ rfl (by kernel_rfl) (by kernel_rfl) (by kernel_rfl) (by kernel_rfl) (fun _ _ _ h => h) (by rfl) (fun w' hS' => by (try dsimp only at hS'); go_split_ands; go_simp; (try with_reducible rfl)) ?_
          simp only [Act.put, List.getElem_toArray, List.getElem_cons_succ, List.getElem_cons_zero, List.setIfInBounds_toArray, List.set_cons_zero, List.set_cons_succ]
          refine Turns.take hS 10 _ rfl (by kernel_rfl) (by kernel_rfl) (by kernel_rfl) (by kernel_rfl) (fun _ _ _ h => h) (by rfl) (fun w' hS' => by (try dsimp only at hS'); go_split_ands; go_simp; (try with_reducible rfl)) ?_
          simp only [Act.put, List.getElem_toArray, List.getElem_cons_succ, List.getElem_cons_zero, List.setIfInBounds_toArray, List.set_cons_zero, List.set_cons_succ]
          refine Turns.take hS 12 _ rfl (by kernel_rfl) (by kernel_rfl) (by kernel_rfl) (by kernel_rfl) (fun _ _ _ h => h) (by rfl) (fun w' hS' => by (try dsimp only at hS'); go_split_ands; go_simp; (try with_reducible rfl)) ?_
          simp only [Act.put, List.getElem_toArray, List.getElem_cons_succ, List.getElem_cons_zero, List.setIfInBounds_toArray, List.set_cons_zero, List.set_cons_succ]
          refine Turns.take hS 13 _ rfl (by kernel_rfl) (by kernel_rfl) (by kernel_rfl) (by kernel_rfl) (fun _ _ _ h => h) (by rfl) (fun w' hS' => by (try dsimp only at hS'); go_split_ands; go_simp; (try with_reducible rfl)) ?_
          simp only [Act.put, List.getElem_toArray, List.getElem_cons_succ, List.getElem_cons_zero, List.setIfInBounds_toArray, List.set_cons_zero, List.set_cons_succ]
          refine Turns.next 11 rfl (by kernel_rfl) (by rfl) (fun K hK => ?_)
          go_simp
          refine hgood.mono ?_
          rintro e w6 ⟨rfl, hb6⟩
          have HT6 := Lib.hid (HTd.out.onto hb6)
          have HO6 := Lib.hid (HOd.out.below hb6 HOd.out.lt)
          refine hK.out _ _ (show (fun (w' : World) => w'.cell? ⟨cq, 1, none⟩ = some (.string s1)) _ from HO6.out.cell 1) ?_
          clear hK K hS
          have hS := (show (fun (w' : World) => w'.cell? ⟨cq, 1, none⟩ = some (.string s1)) _ from HO6.out.cell 1)
          refine Turns.next 14 rfl (by kernel_rfl) (by rfl) (fun K hK => ?_)
          go_simp
          refine (hrgood _).mono ?_
          rintro e w7 ⟨rfl, hw7⟩
          subst w7
          refine hK.out _ _ (show (fun (w' : World) => w'.cell? ⟨cq, 1, none⟩ = some (.string s1)) _ from HO6.out.cell 1) ?_
          clear hK K hS
          have hS := (show (fun (w' : World) => w'.cell? ⟨cq, 1, none⟩ = some (.string s1)) _ from HO6.out.cell 1)
          refine Turns.take hS 15 _ rfl (by kernel_rfl) (by kernel_rfl) (by kernel_rfl) (by kernel_rfl) (fun _ _ _ h => h) (by rfl) (fun w' hS' => by (try dsimp only at hS'); go_split_ands; go_simp; (try with_reducible rfl)) ?_
          simp only [Act.put, List.getElem_toArray, List.getElem_cons_succ, List.getElem_cons_zero, List.setIfInBounds_toArray, List.set_cons_zero, List.set_cons_succ]
          refine Turns.take hS 16 _ rfl (by kernel_rfl) (by kernel_rfl) (by kernel_rfl) (by kernel_rfl) (fun _ _ _ h => h) (by rfl) (fun w' hS' => by (try dsimp only at hS'); go_split_ands; go_simp; (try with_reducible rfl)) ?_
          simp only [Act.put, List.getElem_toArray, List.getElem_cons_succ, List.getElem_cons_zero, List.setIfInBounds_toArray, List.set_cons_zero, List.set_cons_succ]
          refine Turns.rest (late_done (by kernel_rfl)) ?_
          refine any_tail 17 (by rfl) (by kernel_rfl) ?_
          simp only [List.drop_succ_cons, List.drop_zero]
          clear hS
          obtain ⟨w4, rfl⟩ : ∃ w4, w4 = w6 := ⟨_, rfl⟩
          have HT4 := HT6
          clear HT6 HTd HOd HO6 HO4 hgood hrgood oc
          obtain ⟨d4, rfl⟩ : ∃ d4, d4 = d := ⟨_, rfl⟩
          obtain ⟨L4, rfl⟩ : ∃ L4, L4 = L := ⟨_, rfl⟩
          obtain ⟨last4, rfl⟩ : ∃ last4, last4 = last := ⟨_, rfl⟩
          have h04 := h0
          have h14 : last4 ≤ ((k + 1 : Nat) : Int) := by omega
          have hsame := HT4.out.same
          go_wp2_with (go_at_call 12; (with_reducible refine hsame.mono ?_); rintro e w8 ⟨rfl, hb8⟩; have HT8 := Lib.hid (HT4.out.onto hb8); clear hb8)
          go_roundw
          case rel => exact ⟨k + 1, d4, L4, last4, by omega, h04, h14, by go_num, rfl, HT8.out⟩
          case measure => simp [intOf]; omega
        · clear hlx
          have hst : s0 = 1 := hs
          subst hst
          have HO := Lib.hid (Holds.new wr 47 #[.int .i64 1, .string s1, .int .i64 s2, .int .i64 s3, .int .i64 s4, .int .i64 s5, .int .u16 s6, .int .i64 s7])
          have hcq : wr.heap.size < (wr.alloc (.cells #[.int .i64 1, .string s1, .int .i64 s2, .int .i64 s3, .int .i64 s4, .int .i64 s5, .int .u16 s6, .int .i64 s7] 47)).heap.size := by simp
          have ht := tag_full (⟨last + 1, s1, s2, s3, s4, s5, s6, s7⟩ : Ev) _ _ _ _ _ _ _ HT1.out.log hg (by omega) (by omega) rfl hlf
          have hdt := fun W (h : Dl W (d + 1) d L last) => dtag_full (⟨last + 1, s1, s2, s3, s4, s5, s6, s7⟩ : Ev) W (d + 1) d L last h hg hs1000 hlf
          dsimp only at ht hdt
          go_upto_region 22 with (first
            | (go_at_call 9; (with_reducible refine ht.mono ?_); rintro e w4 ⟨rfl, hb5⟩; have HT4 := Lib.hid (HT1.out.onto hb5); have HO4 := Lib.hid (HO.out.below hb5 HO.out.lt); have o1 := HO4.out.cell 1; clear hb5)
            | (go_at_call 13; (with_reducible refine (hdt _ HT4.out.doc).mono ?_); rintro e w5 ⟨rfl, hw5⟩; subst w5))
          obtain ⟨cq, hcqe⟩ : ∃ cq, wr.heap.size = cq := ⟨_, rfl⟩
          simp only [hcqe] at HO4 ⊢
          clear hcqe HT1 HO ht hdt o1 hcq
          have hbd : Below w4.heap.size w4 w4.drew := below_drewN (Below.refl _ _) 1
          have hgood := good_any s1 w4.drew
          have hrgood := fun W => rgood_any s1 W hs1000
          rw [hg] at hgood
          simp only [hg] at hrgood
          have HTd := Lib.hid (HT4.out.onto hbd)
          have HOd : Hid (Holds w4.drew cq 47 _) := Lib.hid (HO4.out.below hbd HO4.out.lt)
          have oc : w4.drew.cell? ⟨cq, 1, none⟩ = some (.string s1) := HOd.out.cell 1
          clear HT4 hbd
          refine region_turns (fun (w' : World) => w'.cell? ⟨cq, 1, none⟩ = some (.string s1)) (fun j => decide (17 ≤ j)) (by kernel_rfl) (oc) (fun hS => ?_)
          refine Turns.take hS 0 _ rfl (by kernel_rfl) (by kernel_rfl) (by kernel_rfl) (by kernel_rfl) (fun _ _ _ h => h) (by rfl) (fun w' hS' => by (try dsimp only at hS'); go_split_ands; go_simp; (try with_reducible rfl)) ?_
          simp only [Act.put, List.getElem_toArray, List.getElem_cons_succ, List.getElem_cons_zero, List.setIfInBounds_toArray, List.set_cons_zero, List.set_cons_succ]
          refine Turns.take hS 1 _ rfl (by kernel_rfl) (by kernel_rfl) (by kernel_rfl) (by kernel_rfl) (fun _ _ _ h => h) (by rfl) (fun w' hS' => by (try dsimp only at hS'); go_split_ands; go_simp; (try with_reducible rfl)) ?_
          simp only [Act.put, List.getElem_toArray, List.getElem_cons_succ, List.getElem_cons_zero, List.setIfInBounds_toArray, List.set_cons_zero, List.set_cons_succ]
          refine Turns.take hS 2 _ rfl (by kernel_rfl) (by kernel_rfl) (by kernel_rfl) (by kernel_rfl) (fun _ _ _ h => h) (by rfl) (fun w' hS' => by (try dsimp only at hS'); go_split_ands; go_simp; (try with_reducible rfl)) ?_
          simp only [Act.put, List.getElem_toArray, List.getElem_cons_succ, List.getElem_cons_zero, List.setIfInBounds_toArray, List.set_cons_zero, List.set_cons_succ]
          refine Turns.take hS 3 _ rfl (by kernel_rfl) (by kernel_rfl) (by kernel_rfl) (by kernel_rfl) (fun _ _ _ h => h) (by rfl) (fun w' hS' => by (try dsimp only at hS'); go_split_ands; go_simp; (try with_reducible rfl)) ?_
          simp only [Act.put, List.getElem_toArray, List.getElem_cons_succ, List.getElem_cons_zero, List.setIfInBounds_toArray, List.set_cons_zero, List.set_cons_succ]
          refine Turns.take hS 4 _ rfl (by kernel_rfl) (by kernel_rfl) (by kernel_rfl) (by kernel_rfl) (fun _ _ _ h => h) (by rfl) (fun w' hS' => by (try dsimp only at hS'); go_split_ands; go_simp; (try with_reducible rfl)) ?_
          simp only [Act.put, List.getElem_toArray, List.getElem_cons_succ, List.getElem_cons_zero, List.setIfInBounds_toArray, List.set_cons_zero, List.set_cons_succ]
          refine Turns.take hS 5 _ rfl (by kernel_rfl) (by kernel_rfl) (by kernel_rfl) (by kernel_rfl) (fun _ _ _ h => h) (by rfl) (fun w' hS' => by (try dsimp only at hS'); go_split_ands; go_simp; (try with_reducible rfl)) ?_
          simp only [Act.put, List.getElem_toArray, List.getElem_cons_succ, List.getElem_cons_zero, List.setIfInBounds_toArray, List.set_cons_zero, List.set_cons_succ]
          refine Turns.take hS 6 _ rfl (by kernel_rfl) (by kernel_rfl) (by kernel_rfl) (by kernel_rfl) (fun _ _ _ h => h) (by rfl) (fun w' hS' => by (try dsimp only at hS'); go_split_ands; go_simp; (try with_reducible rfl)) ?_
          simp only [Act.put, List.getElem_toArray, List.getElem_cons_succ, List.getElem_cons_zero, List.setIfInBounds_toArray, List.set_cons_zero, List.set_cons_succ]
          refine Turns.take hS 7 _ rfl (by kernel_rfl) (by kernel_rfl) (by kernel_rfl) (by kernel_rfl) (fun _ _ _ h => h) (by rfl) (fun w' hS' => by (try dsimp only at hS'); go_split_ands; go_simp; (try with_reducible rfl)) ?_
          simp only [Act.put, List.getElem_toArray, List.getElem_cons_succ, List.getElem_cons_zero, List.setIfInBounds_toArray, List.set_cons_zero, List.set_cons_succ]
          refine Turns.take hS 8 _ rfl (by kernel_rfl) (by kernel_rfl) (by kernel_rfl) (by kernel_rfl) (fun _ _ _ h => h) (by rfl) (fun w' hS' => by (try dsimp only at hS'); go_split_ands; go_simp; (try with_reducible rfl)) ?_
          simp only [Act.put, List.getElem_toArray, List.getElem_cons_succ, List.getElem_cons_zero, List.setIfInBounds_toArray, List.set_cons_zero, List.set_cons_succ]
          refine Turns.take hS 9 _ rfl (by kernel_rfl) (by kernel_rfl) (by kernel_rfl) (by kernel_rfl) (fun _ _ _ h => h) (by rfl) (fun w' hS' => by (try dsimp only at hS'); go_split_ands; go_simp; (try with_reducible rfl)) ?_
          simp only [Act.put, List.getElem_toArray, List.getElem_cons_succ, List.getElem_cons_zero, List.setIfInBounds_toArray, List.set_cons_zero, List.set_cons_succ]
          refine Turns.take hS 10 _ rfl (by kernel_rfl) (by kernel_rfl) (by kernel_rfl) (by kernel_rfl) (fun _ _ _ h => h) (by rfl) (fun w' hS' => by (try dsimp only at hS'); go_split_ands; go_simp; (try with_reducible rfl)) ?_
          simp only [Act.put, List.getElem_toArray, List.getElem_cons_succ, List.getElem_cons_zero, List.setIfInBounds_toArray, List.set_cons_zero, List.set_cons_succ]
          refine Turns.take hS 12 _ rfl (by kernel_rfl) (by kernel_rfl) (by kernel_rfl) (by kernel_rfl) (fun _ _ _ h => h) (by rfl) (fun w' hS' => by (try dsimp only at hS'); go_split_ands; go_simp; (try with_reducible rfl)) ?_
          simp only [Act.put, List.getElem_toArray, List.getElem_cons_succ, List.getElem_cons_zero, List.setIfInBounds_toArray, List.set_cons_zero, List.set_cons_succ]
          refine Turns.take hS 13 _ rfl (by kernel_rfl) (by kernel_rfl) (by kernel_rfl) (by kernel_rfl) (fun _ _ _ h => h) (by rfl) (fun w' hS' => by (try dsimp only at hS'); go_split_ands; go_simp; (try with_reducible rfl)) ?_
          simp only [Act.put, List.getElem_toArray, List.getElem_cons_succ, List.getElem_cons_zero, List.setIfInBounds_toArray, List.set_cons_zero, List.set_cons_succ]
          refine Turns.next 11 rfl (by kernel_rfl) (by rfl) (fun K hK => ?_)
          go_simp
          refine hgood.mono ?_
          rintro e w6 ⟨rfl, hb6⟩
          have HT6 := Lib.hid (HTd.out.onto hb6)
          have HO6 := Lib.hid (HOd.out.below hb6 HOd.out.lt)
          refine hK.out _ _ (show (fun (w' : World) => w'.cell? ⟨cq, 1, none⟩ = some (.string s1)) _ from HO6.out.cell 1) ?_
          clear hK K hS
          have hS := (show (fun (w' : World) => w'.cell? ⟨cq, 1, none⟩ = some (.string s1)) _ from HO6.out.cell 1)
          refine Turns.next 14 rfl (by kernel_rfl) (by rfl) (fun K hK => ?_)
          go_simp
          refine (hrgood _).mono ?_
          rintro e w7 ⟨rfl, hw7⟩
          subst w7
          refine hK.out _ _ (show (fun (w' : World) => w'.cell? ⟨cq, 1, none⟩ = some (.string s1)) _ from HO6.out.cell 1) ?_
          clear hK K hS
          have hS := (show (fun (w' : World) => w'.cell? ⟨cq, 1, none⟩ = some (.string s1)) _ from HO6.out.cell 1)
          refine Turns.take hS 15 _ rfl (by kernel_rfl) (by kernel_rfl) (by kernel_rfl) (by kernel_rfl) (fun _ _ _ h => h) (by rfl) (fun w' hS' => by (try dsimp only at hS'); go_split_ands; go_simp; (try with_reducible rfl)) ?_
          simp only [Act.put, List.getElem_toArray, List.getElem_cons_succ, List.getElem_cons_zero, List.setIfInBounds_toArray, List.set_cons_zero, List.set_cons_succ]
          refine Turns.take hS 16 _ rfl (by kernel_rfl) (by kernel_rfl) (by kernel_rfl) (by kernel_rfl) (fun _ _ _ h => h) (by rfl) (fun w' hS' => by (try dsimp only at hS'); go_split_ands; go_simp; (try with_reducible rfl)) ?_
          simp only [Act.put, List.getElem_toArray, List.getElem_cons_succ, List.getElem_cons_zero, List.setIfInBounds_toArray, List.set_cons_zero, List.set_cons_succ]
          refine Turns.rest (late_done (by kernel_rfl)) ?_
          refine any_tail 17 (by rfl) (by kernel_rfl) ?_
          simp only [List.drop_succ_cons, List.drop_zero]
          clear hS
          obtain ⟨w4, rfl⟩ : ∃ w4, w4 = w6 := ⟨_, rfl⟩
          have HT4 := HT6
          clear HT6 HTd HOd HO6 HO4 hgood hrgood oc
          obtain ⟨d4, rfl⟩ : ∃ d4, d4 = d := ⟨_, rfl⟩
          obtain ⟨L4, rfl⟩ : ∃ L4, L4 = L := ⟨_, rfl⟩
          obtain ⟨last4, rfl⟩ : ∃ last4, last4 = last := ⟨_, rfl⟩
          have h04 := h0
          have h14 : last4 ≤ ((k + 1 : Nat) : Int) := by omega
          have hsame := HT4.out.same
          go_wp2_with (go_at_call 12; (with_reducible refine hsame.mono ?_); rintro e w8 ⟨rfl, hb8⟩; have HT8 := Lib.hid (HT4.out.onto hb8); clear hb8)
          go_roundw
          case rel => exact ⟨k + 1, d4, L4, last4, by omega, h04, h14, by go_num, rfl, HT8.out⟩
          case measure => simp [intOf]; omega
        · clear hlx
          have hst : s0 = 1 := hs
          subst hst
          have HO := Lib.hid (Holds.new wr 47 #[.int .i64 1, .string s1, .int .i64 s2, .int .i64 s3, .int .i64 s4, .int .i64 s5, .int .u16 s6, .int .i64 s7])
          have hcq : wr.heap.size < (wr.alloc (.cells #[.int .i64 1, .string s1, .int .i64 s2, .int .i64 s3, .int .i64 s4, .int .i64 s5, .int .u16 s6, .int .i64 s7] 47)).heap.size := by simp
          obtain ⟨u, hu⟩ : ∃ u, last + 1 = u := ⟨_, rfl⟩
          have HU := Lib.hid hu
          have ht := tag_any (⟨u, s1, s2, s3, s4, s5, s6, s7⟩ : Ev) _ _ _ _ _ _ _ HT1.out.log hg (by omega) (by omega) hu.symm hlf
          have hdt := fun W (h : Dl W (d + 1) d L last) hB => dtag_any (⟨u, s1, s2, s3, s4, s5, s6, s7⟩ : Ev) W (d + 1) d L last h hg hs1000 hlf (by omega) (by omega) hu.symm (Nat.lt_succ_self _) hB
          dsimp only at ht hdt
          clear hu
          go_upto_region 22 with (first
            | (go_at_call 9; (with_reducible refine ht.mono ?_); rintro e w5 ⟨rfl, hl5, hc5⟩; have HT5 := Lib.hid (HT1.out.stepP hl5 hc5); have HO5 := Lib.hid (HO.out.chg hc5 (fun hp => by have := lpart_lt _ hp; omega)); have o1 := HO5.out.cell 1; clear hl5 hc5)
            | (go_at_call 13; (with_reducible refine (hdt _ HT5.out.doc HT5.out.size).mono ?_); rintro e w4 ⟨rfl, hd4, hc4⟩; have HT4 := Lib.hid (HT5.out.stepD hd4 hc4); have HO4 := Lib.hid (HO5.out.chg hc4 (by omega)); clear hd4 hc4))
          obtain ⟨cq, hcqe⟩ : ∃ cq, wr.heap.size = cq := ⟨_, rfl⟩
          simp only [hcqe] at HO4 ⊢
          have huu : (u != u) = false := by simp
          clear hcqe HT5 HO5 HT1 HO ht hdt o1 hcq
          have hbd : Below w4.heap.size w4 w4.drew := below_drewN (Below.refl _ _) 1
          have hgood := good_any s1 w4.drew
          have hrgood := fun W => rgood_any s1 W hs1000
          rw [hg] at hgood
          simp only [hg] at hrgood
          have HTd := Lib.hid (HT4.out.onto hbd)
          have HOd : Hid (Holds w4.drew cq 47 _) := Lib.hid (HO4.out.below hbd HO4.out.lt)
          have oc : w4.drew.cell? ⟨cq, 1, none⟩ = some (.string s1) := HOd.out.cell 1
          clear HT4 hbd
          refine region_turns (fun (w' : World) => w'.cell? ⟨cq, 1, none⟩ = some (.string s1)) (fun j => decide (17 ≤ j)) (by kernel_rfl) (oc) (fun hS => ?_)
          refine Turns.take hS 0 _ rfl (by kernel_rfl) (by kernel_rfl) (by kernel_rfl) (by kernel_rfl) (fun _ _ _ h => h) (by rfl) (fun w' hS' => by (try dsimp only at hS'); go_split_ands; go_simp; (try with_reducible rfl)) ?_
          simp only [Act.put, List.getElem_toArray, List.getElem_cons_succ, List.getElem_cons_zero, List.setIfInBounds_toArray, List.set_cons_zero, List.set_cons_succ]
          refine Turns.take hS 1 _ rfl (by kernel_rfl) (by kernel_rfl) (by kernel_rfl) (by kernel_rfl) (fun _ _ _ h => h) (by rfl) (fun w' hS' => by (try dsimp only at hS'); go_split_ands; go_simp; (try with_reducible rfl)) ?_
          simp only [Act.put, List.getElem_toArray, List.getElem_cons_succ, List.getElem_cons_zero, List.setIfInBounds_toArray, List.set_cons_zero, List.set_cons_succ]
          refine Turns.take hS 2 _ rfl (by kernel_rfl) (by kernel_rfl) (by kernel_rfl) (by kernel_rfl) (fun _ _ _ h => h) (by rfl) (fun w' hS' => by (try dsimp only at hS'); go_split_ands; go_simp; (try with_reducible rfl)) ?_
          simp only [Act.put, List.getElem_toArray, List.getElem_cons_succ, List.getElem_cons_zero, List.setIfInBounds_toArray, List.set_cons_zero, List.set_cons_succ]
          refine Turns.take hS 3 _ rfl (by kernel_rfl) (by kernel_rfl) (by kernel_rfl) (by kernel_rfl) (fun _ _ _ h => h) (by rfl) (fun w' hS' => by (try dsimp only at hS'); go_split_ands; go_simp; (try with_reducible rfl)) ?_
          simp only [Act.put, List.getElem_toArray, List.getElem_cons_succ, List.getElem_cons_zero, List.setIfInBounds_toArray, List.set_cons_zero, List.set_cons_succ]
          refine Turns.take hS 4 _ rfl (by kernel_rfl) (by kernel_rfl) (by kernel_rfl) (by kernel_rfl) (fun _ _ _ h => h) (by rfl) (fun w' hS' => by (try dsimp only at hS'); go_split_ands; go_simp; (try with_reducible rfl)) ?_
          simp only [Act.put, List.getElem_toArray, List.getElem_cons_succ, List.getElem_cons_zero, List.setIfInBounds_toArray, List.set_cons_zero, List.set_cons_succ]
          refine Turns.take hS 5 _ rfl (by kernel_rfl) (by kernel_rfl) (by kernel_rfl) (by kernel_rfl) (fun _ _ _ h => h) (by rfl) (fun w' hS' => by (try dsimp only at hS'); go_split_ands; go_simp; (try with_reducible rfl)) ?_
          simp only [Act.put, List.getElem_toArray, List.getElem_cons_succ, List.getElem_cons_zero, List.setIfInBounds_toArray, List.set_cons_zero, List.set_cons_succ]
          refine Turns.take hS 6 _ rfl (by kernel_rfl) (by kernel_rfl) (by kernel_rfl) (by kernel_rfl) (fun _ _ _ h => h) (by rfl) (fun w' hS' => by (try dsimp only at hS'); go_split_ands; go_simp; (try with_reducible rfl)) ?_
          simp only [Act.put, List.getElem_toArray, List.getElem_cons_succ, List.getElem_cons_zero, List.setIfInBounds_toArray, List.set_cons_zero, List.set_cons_succ]
          refine Turns.take hS 7 _ rfl (by kernel_rfl) (by kernel_rfl) (by kernel_rfl) (by kernel_rfl) (fun _ _ _ h => h) (by rfl) (fun w' hS' => by (try dsimp only at hS'); go_split_ands; go_simp; (try with_reducible rfl)) ?_
          simp only [Act.put, List.getElem_toArray, List.getElem_cons_succ, List.getElem_cons_zero, List.setIfInBounds_toArray, List.set_cons_zero, List.set_cons_succ]
          refine Turns.take hS 8 _ rfl (by kernel_rfl) (by kernel_rfl) (by kernel_rfl) (by kernel_rfl) (fun _ _ _ h => h) (by rfl) (fun w' hS' => by (try dsimp only at hS'); go_split_ands; go_simp; (try with_reducible rfl)) ?_
          simp only [Act.put, List.getElem_toArray, List.getElem_cons_succ, List.getElem_cons_zero, List.setIfInBounds_toArray, List.set_cons_zero, List.set_cons_succ]
          refine Turns.take hS 9 _ rfl (by kernel_rfl) (by kernel_rfl) (by kernel_rfl) (by kernel_rfl) (fun _ _ _ h => h) (by rfl) (fun w' hS' => by (try dsimp only at hS'); go_split_ands; go_simp; (try with_reducible rfl)) ?_
          simp only [Act.put, List.getElem_toArray, List.getElem_cons_succ, List.getElem_cons_zero, List.setIfInBounds_toArray, List.set_cons_zero, List.set_cons_succ]
          refine Turns.take hS 10 _ rfl (by kernel_rfl) (by kernel_rfl) (by kernel_rfl) (by kernel_rfl) (fun _ _ _ h => h) (by rfl) (fun w' hS' => by (try dsimp only at hS'); go_split_ands; go_simp; (try with_reducible rfl)) ?_
          simp only [Act.put, List.getElem_toArray, List.getElem_cons_succ, List.getElem_cons_zero, List.setIfInBounds_toArray, List.set_cons_zero, List.set_cons_succ]
          refine Turns.take hS 12 _ rfl (by kernel_rfl) (by kernel_rfl) (by kernel_rfl) (by kernel_rfl) (fun _ _ _ h => h) (by rfl) (fun w' hS' => by (try dsimp only at hS'); go_split_ands; go_simp; (try with_reducible rfl)) ?_
          simp only [Act.put, List.getElem_toArray, List.getElem_cons_succ, List.getElem_cons_zero, List.setIfInBounds_toArray, List.set_cons_zero, List.set_cons_succ]
          refine Turns.take hS 13 _ rfl (by kernel_rfl) (by kernel_rfl) (by kernel_rfl) (by kernel_rfl) (fun _ _ _ h => h) (by rfl) (fun w' hS' => by (try dsimp only at hS'); go_split_ands; go_simp; (try with_reducible rfl)) ?_
          simp only [Act.put, List.getElem_toArray, List.getElem_cons_succ, List.getElem_cons_zero, List.setIfInBounds_toArray, List.set_cons_zero, List.set_cons_succ]
          refine Turns.next 11 rfl (by kernel_rfl) (by rfl) (fun K hK => ?_)
          go_simp
          refine hgood.mono ?_
          rintro e w6 ⟨rfl, hb6⟩
          have HT6 := Lib.hid (HTd.out.onto hb6)
          have HO6 := Lib.hid (HOd.out.below hb6 HOd.out.lt)
          refine hK.out _ _ (show (fun (w' : World) => w'.cell? ⟨cq, 1, none⟩ = some (.string s1)) _ from HO6.out.cell 1) ?_
          clear hK K hS
          have hS := (show (fun (w' : World) => w'.cell? ⟨cq, 1, none⟩ = some (.string s1)) _ from HO6.out.cell 1)
          refine Turns.next 14 rfl (by kernel_rfl) (by rfl) (fun K hK => ?_)
          go_simp
          refine (hrgood _).mono ?_
          rintro e w7 ⟨rfl, hw7⟩
          subst w7
          refine hK.out _ _ (show (fun (w' : World) => w'.cell? ⟨cq, 1, none⟩ = some (.string s1)) _ from HO6.out.cell 1) ?_
          clear hK K hS
          have hS := (show (fun (w' : World) => w'.cell? ⟨cq, 1, none⟩ = some (.string s1)) _ from HO6.out.cell 1)
          refine Turns.take hS 15 _ rfl (by kernel_rfl) (by kernel_rfl) (by kernel_rfl) (by kernel_rfl) (fun _ _ _ h => h) (by rfl) (fun w' hS' => by (try dsimp only at hS'); go_split_ands; go_simp; (try with_reducible rfl)) ?_
          simp only [Act.put, List.getElem_toArray, List.getElem_cons_succ, List.getElem_cons_zero, List.setIfInBounds_toArray, List.set_cons_zero, List.set_cons_succ]
          refine Turns.take hS 16 _ rfl (by kernel_rfl) (by kernel_rfl) (by kernel_rfl) (by kernel_rfl) (fun _ _ _ h => h) (by rfl) (fun w' hS' => by (try dsimp only at hS'); go_split_ands; go_simp; (try with_reducible rfl)) ?_
          simp only [Act.put, List.getElem_toArray, List.getElem_cons_succ, List.getElem_cons_zero, List.setIfInBounds_toArray, List.set_cons_zero, List.set_cons_succ]
          refine Turns.rest (late_done (by kernel_rfl)) ?_
          refine any_tail 17 (by rfl) (by kernel_rfl) ?_
          simp only [List.drop_succ_cons, List.drop_zero]
          clear hS
          obtain ⟨w4, rfl⟩ : ∃ w4, w4 = w6 := ⟨_, rfl⟩
          have HT4 := HT6
          clear HT6 HTd HOd HO6 HO4 hgood hrgood oc
          obtain ⟨d4, rfl⟩ : ∃ d4, d4 = d := ⟨_, rfl⟩
          obtain ⟨L4, hL4⟩ : ∃ L4, L ++ [(⟨u, s1, s2, s3, s4, s5, s6, s7⟩ : Ev)] = L4 := ⟨_, rfl⟩
          obtain ⟨last4, rfl⟩ : ∃ last4, last4 = u := ⟨_, rfl⟩
          rw [hL4] at HT4
          have h04 : 0 ≤ last4 := by have := HU.out; omega
          have h14 : last4 ≤ ((k + 1 : Nat) : Int) := by have := HU.out; omega
          (try dsimp only at HT4)
          clear hL4 hlf
          have hsame := HT4.out.same
          go_wp2_with (go_at_call 12; (with_reducible refine hsame.mono ?_); rintro e w8 ⟨rfl, hb8⟩; have HT8 := Lib.hid (HT4.out.onto hb8); clear hb8)
          go_roundw
          case rel => exact ⟨k + 1, d4, L4, last4, by omega, h04, h14, by go_num, rfl, HT8.out⟩
          case measure => simp [intOf]; omega
      have k1 : (s0 == 1) = false := by simpa using hs
      clear hs
      by_cases hs : s0 = 2
      · rcases L with _ | ⟨x, M⟩
        · clear hlx
          have hst : s0 = 2 := hs
          subst hst
          have ht := take_zero _ _ _ _ _ _ HT1.out.log
          have hdt := fun W (h : Dl W (d + 1) d [] last) => dtake_none W (d + 1) d last h
          have hneq := fun W => ev_neq_zero W
          go_upto_region 32 with (first
            | (go_at_call 10; (with_reducible refine ht.mono ?_); rintro e w5 ⟨rfl, hl5, hc5⟩; have HT5 := Lib.hid ((HT1.out.stepP hl5 hc5).onto (below_alloc w5 (.cells #[.int .i64 0, .string ⟨#[]⟩, .int .i64 0, .int .i64 0, .int .i64 0, .int .i64 0, .int .u16 0, .int .i64 0] 41))); clear hl5 hc5)
            | (go_at_call 16; (with_reducible refine (hdt _ HT5.out.doc).mono ?_); rintro e wx ⟨rfl, hwx⟩; subst wx))
          obtain ⟨w4, hw4⟩ : ∃ w4, w5.alloc (.cells #[.int .i64 0, .string ⟨#[]⟩, .int .i64 0, .int .i64 0, .int .i64 0, .int .i64 0, .int .u16 0, .int .i64 0] 41) = w4 := ⟨_, rfl⟩
          obtain ⟨d4, rfl⟩ : ∃ d4, d4 = d := ⟨_, rfl⟩
          obtain ⟨L4, hL4⟩ : ∃ L4 : List Ev, L4 = [] := ⟨_, rfl⟩
          obtain ⟨last4, rfl⟩ : ∃ last4, last4 = last := ⟨_, rfl⟩
          have HT4 : Hid (Ted w z d4 L4 last4 w4) := by
            rw [← hw4, hL4]
            exact Lib.hid (HT5.out.stepD HT5.out.doc (Chg.refl _ _))
          rw [hw4]
          have h04 := h0
          have h14 : last4 ≤ ((k + 1 : Nat) : Int) := by omega
          clear ht hdt HT1 HT5 hw4 hL4 hneq
          have hsame := HT4.out.same
          go_wp2_with (go_at_call 12; (with_reducible refine hsame.mono ?_); rintro e w8 ⟨rfl, hb8⟩; have HT8 := Lib.hid (HT4.out.onto hb8); clear hb8)
          go_roundw
          case rel => exact ⟨k + 1, d4, L4, last4, by omega, h04, h14, by go_num, rfl, HT8.out⟩
          case measure => simp [intOf]; omega
        · have hm16 := hlx
          clear hlx
          have hst : s0 = 2 := hs
          subst hst
          have ht := take_one _ _ _ _ _ x M _ HT1.out.log
          have hdt := fun W (h : Dl W (d + 1) d (x :: M) last) => dtake_any W (d + 1) d x M last h hm16 (Nat.lt_succ_self _)
          have hii : (x.id != x.id) = false := by simp
          have hll : (x.lab.toList == x.lab.toList) = true := beq_self_eq_true _
          go_upto_region 32 with (first
            | (go_at_call 10; (with_reducible refine ht.mono ?_); rintro e w5 ⟨rfl, hl5, hc5⟩; have HZ5 := Lib.hid (HT1.out.stepP hl5 hc5).size; have HT5 := Lib.hid ((HT1.out.stepP hl5 hc5).onto (below_alloc w5 (.cells #[.int .i64 x.id, .string x.lab, .int .i64 x.loc, .int .i64 x.time, .int .i64 x.hops, .int .i64 x.root, .int .u16 x.boot, .int .i64 x.way] 41))); clear hl5 hc5; have HO5 := Lib.hid (Holds.new w5 41 #[.int .i64 x.id, .string x.lab, .int .i64 x.loc, .int .i64 x.time, .int .i64 x.hops, .int .i64 x.root, .int .u16 x.boot, .int .i64 x.way]))
            | (go_at_call 16; (with_reducible refine (hdt _ HT5.out.doc).mono ?_); rintro e w4 ⟨rfl, hd4, hc4⟩; have HT4 := Lib.hid (HT5.out.stepD hd4 hc4); have HO4 := Lib.hid (HO5.out.chg hc4 (fun e => by have := HZ5.out; omega)); have o0 := HO4.out.cell 0; have o1 := HO4.out.cell 1; clear hd4 hc4))
          obtain ⟨d4, rfl⟩ : ∃ d4, d4 = d := ⟨_, rfl⟩
          obtain ⟨L4, rfl⟩ : ∃ L4, L4 = M := ⟨_, rfl⟩
          obtain ⟨last4, rfl⟩ : ∃ last4, last4 = last := ⟨_, rfl⟩
          have h04 := h0
          have h14 : last4 ≤ ((k + 1 : Nat) : Int) := by omega
          clear ht hdt HT1 HT5 HZ5 HO5 HO4 o0 o1 hii hll
          have hsame := HT4.out.same
          go_wp2_with (go_at_call 12; (with_reducible refine hsame.mono ?_); rintro e w8 ⟨rfl, hb8⟩; have HT8 := Lib.hid (HT4.out.onto hb8); clear hb8)
          go_roundw
          case rel => exact ⟨k + 1, d4, L4, last4, by omega, h04, h14, by go_num, rfl, HT8.out⟩
          case measure => simp [intOf]; omega
      have k2 : (s0 == 2) = false := by simpa using hs
      clear hs hlx
      by_cases hs : s0 = 3
      · have hst : s0 = 3 := hs
        subst hst
        have hcl := lclear_any _ _ _ _ _ _ _ HT1.out.log
        go_upto_region 32 with (go_at_call 8; (with_reducible refine hcl.mono ?_); rintro e w5 ⟨rfl, hl5, hc5⟩; have HT5 := Lib.hid (HT1.out.stepP hl5 hc5); clear hl5 hc5)
        have HT6 := Lib.hid HT5.out.clear
        obtain ⟨w4, hw4⟩ : ∃ w4, w5.alloc (.cells #[.slice none 0 0, .slice none 0 0, .int .i64 0] 30) = w4 := ⟨_, rfl⟩
        obtain ⟨d4, hd4⟩ : ∃ d4, w5.heap.size = d4 := ⟨_, rfl⟩
        obtain ⟨L4, hL4⟩ : ∃ L4 : List Ev, L4 = [] := ⟨_, rfl⟩
        obtain ⟨last4, hla⟩ : ∃ last4 : Int, last4 = 0 := ⟨_, rfl⟩
        have HT4 : Hid (Ted w z d4 L4 last4 w4) := by rw [← hw4, hL4, hla, ← hd4]; exact HT6
        simp only [hw4, hd4]
        have h04 : 0 ≤ last4 := by omega
        have h14 : last4 ≤ ((k + 1 : Nat) : Int) := by omega
        clear hcl HT1 HT5 HT6 hw4 hd4 hL4 hla
        have hsame := HT4.out.same
        go_wp2_with (go_at_call 12; (with_reducible refine hsame.mono ?_); rintro e w8 ⟨rfl, hb8⟩; have HT8 := Lib.hid (HT4.out.onto hb8); clear hb8)
        go_roundw
        case rel => exact ⟨k + 1, d4, L4, last4, by omega, h04, h14, by go_num, rfl, HT8.out⟩
        case measure => simp [intOf]; omega
      have k3 : (s0 == 3) = false := by simpa using hs
      clear hs
      go_upto_region 32 with fail
      obtain ⟨w4, hw4⟩ : ∃ w4, wr.alloc (.cells #[.int .i64 s0, .string s1, .int .i64 s2, .int .i64 s3, .int .i64 s4, .int .i64 s5, .int .u16 s6, .int .i64 s7] 47) = w4 := ⟨_, rfl⟩
      rw [hw4] at HT1 ⊢
      obtain ⟨d4, rfl⟩ : ∃ d4, d4 = d := ⟨_, rfl⟩
      obtain ⟨L4, rfl⟩ : ∃ L4, L4 = L := ⟨_, rfl⟩
      obtain ⟨last4, rfl⟩ : ∃ last4, last4 = last := ⟨_, rfl⟩
      have h04 := h0
      have h14 : last4 ≤ ((k + 1 : Nat) : Int) := by omega
      have HT4 := HT1
      clear hw4 HT1
      have hsame := HT4.out.same
      go_wp2_with (go_at_call 12; (with_reducible refine hsame.mono ?_); rintro e w8 ⟨rfl, hb8⟩; have HT8 := Lib.hid (HT4.out.onto hb8); clear hb8)
      go_roundw
      case rel => exact ⟨k + 1, d4, L4, last4, by omega, h04, h14, by go_num, rfl, HT8.out⟩
      case measure => simp [intOf]; omega
    · have HB := Lib.hid HT.out.below
      clear HT
      go_wp2
      go_ret
      exact ⟨rfl, HB.out⟩

set_option maxRecDepth 100000 in
theorem lifted (os : Os) (started : os.Started) (H : Type) (enc : TypeId × Value → H) :
    ReturnsInHanded {} Try.checked os 3 .any (Rows.eventDoesSpec.pre6 enc Try.prog Try.f3 Rows.eventDoesRow.domain false) (Rows.eventDoesSpec.post enc Try.prog Try.f3 false true false false) := by
  refine returnsInHanded_of_change (C := Try.checked) own started (by kernel_rfl) Try.func3
    (ChangeSpec.witness6 (enc := enc) (C := Try.checked) false ⟨#[], #[.slice none 0 0], []⟩ 8 (by kernel_rfl) (by kernel_rfl) (by kernel_rfl) (by kernel_rfl)) ?_
  intro W base args ds gs before hval0 hW hcnd _
  have hval : ∀ (j : Nat) t v, Try.f3.params[j]? = some t → args[j]? = some v → Value.okWide Try.prog W .any base t v := hval0
  have hW' := hW
  obtain ⟨p, q, hA0, hV, rfl, hfz, hnd⟩ := hW
  have hA : DataW.TrodAll enc Try.prog W 0 (fun _ => true) true Try.f3.params.toList args.toList ds p := hA0
  have hAk := hA
  rw [Try.params3] at hA hval
  obtain ⟨v0, vs0, d0, ds0, p0, q0, hargs, rfl, hp, h0, r0⟩ := trodAll_cons hA
  obtain ⟨rfl, rfl, rfl⟩ := trodAll_nil r0
  obtain rfl : args = #[v0] := by cases args; simp_all
  obtain ⟨rfl, rfl⟩ := trodVars_none hV
  clear hA0 hval0 hargs
  simp only [List.append_nil] at hW'
  have hend : ∀ W' : World, Below W.heap.size W W' → Rows.eventDoesSpec.post enc Try.prog Try.f3 false true false false W #[v0] (.bool true) W' := fun W' hb =>
    law_post (tb := 4) hW' hAk rfl (by kernel_rfl) (by kernel_rfl) (by kernel_rfl) Try.underlying4 rfl rfl rfl hb
  clear hW' hAk hp
  obtain ⟨A0, n0, c0, f0, rfl, w0⟩ := flats_arg (ks := [.int .i64, .str, .int .i64, .int .i64, .int .i64, .int .i64, .int .u16, .int .i64]) 9 Try.underlying22 (by kernel_rfl) (by kernel_rfl) (by decide) (hval 0 22 v0 rfl rfl) h0
  refine (walk A0 n0 c0 f0 W w0).mono fun e W' ⟨he, hg⟩ => ?_
  subst he
  exact ⟨_, rfl, hend W' hg⟩

theorem over : Rows.eventDoesRow.holds Try.pinned (OpenSpec.ofChange Rows.eventDoesSpec) :=
  OpenClaim.holds_of_wide 3 Try.f3 rfl rfl rfl rfl rfl rfl rfl ⟨rfl, rfl, rfl, rfl, rfl⟩ rfl rfl rfl rfl rfl (by kernel_rfl) Try.func3 (by kernel_rfl)
    (of_decide_eq_true (by kernel_rfl)) (by unfold Func.isWrapper; first | (rw [if_pos (by decide +kernel)]; kernel_rfl) | (rw [if_neg (by decide +kernel)]; exact ⟨rfl, rfl⟩))
    (fun os started H enc _ => lifted os started H enc)

/-- THE STATEMENT -/
theorem proved : Rows.EventDoesSaid :=
  over
#print axioms proved
end Go.Proofs.Ytjifnnloncanpaa.eventDoes
