/-
  Package event: events are taken in the order in which they were tagged, each once, as they were, with numbers that rise by one: the law answers true for every script of calls. No condition.
  The walk is the prover's own; the frame of the row's step follows the kit's template.
-/
import Derived.Test.YtjifnnloncanpaaRows
import Derived.Test.YtjifnnloncanpaaLawKit
import Derived.Test.YtjifnnloncanpaaFlat
import Derived.Test.YtjifnnloncanpaaEvO
import Derived.LoopTactic
import Derived.Deep.CutBlock
namespace Go.Proofs.Ytjifnnloncanpaa.eventOrder
open Go.ChangeShapes Go.WideShapes Go.ChangeAt Go.RowKit Go.ChangeMaps Go.WideElems
set_option linter.unusedVariables false

theorem cells0 {W : World} {vs : List Value} (h : Fit W [.int .i64, .str, .int .i64, .int .i64, .int .i64, .int .i64, .int .u16, .int .i64] vs) : ∃ (s0 : Int) (s1 : ByteArray) (s2 : Int) (s3 : Int) (s4 : Int) (s5 : Int) (s6 : Int) (s7 : Int), vs = [.int .i64 s0, .string s1, .int .i64 s2, .int .i64 s3, .int .i64 s4, .int .i64 s5, .int .u16 s6, .int .i64 s7] ∧ (Lit.int .i64 s0).wf = true ∧ s1.size ≤ maxLen ∧ (Lit.int .i64 s2).wf = true ∧ (Lit.int .i64 s3).wf = true ∧ (Lit.int .i64 s4).wf = true ∧ (Lit.int .i64 s5).wf = true ∧ (Lit.int .u16 s6).wf = true ∧ (Lit.int .i64 s7).wf = true := by
  match vs, h.length, h with
  | [y0, y1, y2, y3, y4, y5, y6, y7], _, h =>
    obtain ⟨⟨x0, rfl, h0⟩, ⟨x1, rfl, h1⟩, ⟨x2, rfl, h2⟩, ⟨x3, rfl, h3⟩, ⟨x4, rfl, h4⟩, ⟨x5, rfl, h5⟩, ⟨x6, rfl, h6⟩, ⟨x7, rfl, h7⟩, _⟩ := h
    exact ⟨x0, x1, x2, x3, x4, x5, x6, x7, rfl, h0, h1, h2, h3, h4, h5, h6, h7⟩
theorem own : ownKnob Try.prog.godebug = none := by kernel_rfl
set_option linter.unusedSimpArgs false in
set_option maxHeartbeats 8000000 in
set_option maxRecDepth 100000 in
theorem walk (A0 : Option Addr) (n0 c0 : Nat) (f0 : Nat → List Value) (w : World) (w0 : FlatRow w [.int .i64, .str, .int .i64, .int .i64, .int .i64, .int .i64, .int .u16, .int .i64] A0 n0 c0 f0) :
    Calls Try.prog 4 #[.slice A0 n0 c0] w fun e w' => e = .returned (.bool true) ∧ Below w.heap.size w w' := by
  by_cases h200 : 200 < n0
  · have d3 : decide ((200 : Int) < (n0 : Int)) = true := decide_eq_true (by omega)
    go_enter Try.func4, Try.ntmps4
    go_wp2_with (first
      | ((go_at_call 6; refine (alive_yes _).mono ?_; rintro e w1 ⟨rfl, hb1⟩)))
    go_ret
    exact ⟨rfl, hb1⟩
  have d3 : decide ((200 : Int) < (n0 : Int)) = false := decide_eq_false (by omega)
  have R := Lib.hid w0
  have hcap := w0.cap_le
  have hmx := w0.max
  unfold maxLen at hmx
  clear w0
  go_enter Try.func4, Try.ntmps4
  go_wp2_with (first
    | (go_at_call 6; refine (alive_yes _).mono ?_; rintro e w1 ⟨rfl, hb1⟩)
    | (go_at_call 7; refine (lnew_any _).mono ?_; rintro e w2 ⟨rfl, hl2, hb2, hs2⟩))
  obtain ⟨z, hz⟩ : ∃ z, w1.heap.size = z := ⟨_, rfl⟩
  rw [hz] at hl2 hs2
  simp only [hz]
  have HT0 := Lib.hid (Ord.start hl2 (hb1.trans (hb2.mono hb1.size)) (by rw [← hz]; exact hb1.size) (by omega))
  clear hb1 hb2 hl2 hs2 hz
  go_loopw [4, 5, 20] (fun v a i wr => ∃ (k : Nat) (I : List Ev) (at' : Nat) (A : Option Addr) (c : Nat), k ≤ n0 ∧ I.length ≤ k ∧ i = .int .i64 (k : Int) ∧ a = .int .i64 (at' : Int) ∧ v = .slice A I.length c ∧ Ord w z I at' A c wr) (fun _ _ i _ => n0 - (intOf i).toNat)
  case atStart => exact ⟨0, [], 0, none, 0, Nat.zero_le _, Nat.zero_le _, rfl, rfl, rfl, HT0.out⟩
  case round =>
    obtain ⟨k, I, at', A, c, hk, hIk, rfl, rfl, rfl, hT⟩ := hrel
    have HT := Lib.hid hT
    clear HT0 hT
    by_cases hlt : k < n0
    · have HTs := HT
      have hale := HT.out.le
      obtain ⟨b, off, rfl, hb', hc⟩ := (R.out.below HT.out.below).at 8 rfl hlt
      obtain ⟨s0, s1, s2, s3, s4, s5, s6, s7, hf, hw0, hw1, hw2, hw3, hw4, hw5, hw6, hw7⟩ := cells0 (R.out.fit k hlt)
      have q0 : wr.cell? ⟨b, off + k * 8, none⟩ = some (.int .i64 s0) := hc 0 _ (by rw [hf]; rfl)
      have q1 : wr.cell? ⟨b, off + k * 8 + 1, none⟩ = some (.string s1) := hc 1 _ (by rw [hf]; rfl)
      have q2 : wr.cell? ⟨b, off + k * 8 + 2, none⟩ = some (.int .i64 s2) := hc 2 _ (by rw [hf]; rfl)
      have q3 : wr.cell? ⟨b, off + k * 8 + 3, none⟩ = some (.int .i64 s3) := hc 3 _ (by rw [hf]; rfl)
      have q4 : wr.cell? ⟨b, off + k * 8 + 4, none⟩ = some (.int .i64 s4) := hc 4 _ (by rw [hf]; rfl)
      have q5 : wr.cell? ⟨b, off + k * 8 + 5, none⟩ = some (.int .i64 s5) := hc 5 _ (by rw [hf]; rfl)
      have q6 : wr.cell? ⟨b, off + k * 8 + 6, none⟩ = some (.int .u16 s6) := hc 6 _ (by rw [hf]; rfl)
      have q7 : wr.cell? ⟨b, off + k * 8 + 7, none⟩ = some (.int .i64 s7) := hc 7 _ (by rw [hf]; rfl)
      have ew := IntWalk.i64_in ((k : Int) + 1) (by omega)
      have HT1 := Lib.hid (HT.out.onto (below_alloc wr (.cells #[.int .i64 s0, .string s1, .int .i64 s2, .int .i64 s3, .int .i64 s4, .int .i64 s5, .int .u16 s6, .int .i64 s7] 47)))
      clear hc hf HT hw0 hw2 hw3 hw4 hw5 hw6 hw7 hb'
      by_cases hl1 : 1000 < s1.size
      · have d1 : decide (1000 < (s1.size : Int)) = true := decide_eq_true (by omega)
        have d2 : decide (1000 < s1.size) = true := decide_eq_true hl1
        go_wp2
        go_ret
        exact ⟨rfl, HT1.out.below⟩
      have d1 : decide (1000 < (s1.size : Int)) = false := decide_eq_false (by omega)
      have d2 : decide (1000 < s1.size) = false := decide_eq_false hl1
      have hs1000 : s1.size ≤ 1000 := by omega
      by_cases hs : s0 = 2
      · subst hs
        by_cases hat : at' < I.length
        · as_aux_lemma =>
            obtain ⟨x, hx⟩ : ∃ x, I[at']? = some x := ⟨_, List.getElem?_eq_getElem hat⟩
            have hdrop : I.drop at' = x :: I.drop (at' + 1) := by
              rw [List.getElem?_eq_getElem hat] at hx
              cases hx
              exact List.drop_eq_getElem_cons hat
            have hlog := HT1.out.log
            rw [hdrop] at hlog
            have ht := take_one _ _ _ _ _ x _ _ hlog
            have da : decide ((at' : Int) < (I.length : Int)) = true := decide_eq_true (by omega)
            have da2 : decide (at' < I.length) = true := decide_eq_true hat
            have dlt : (at' : Int) < (I.length : Int) := by omega
            have ew2 := IntWalk.i64_in ((at' : Int) + 1) (by omega)
            have HX := Lib.hid hx
            clear hlog hdrop hx
            go_upto_region 15 with (go_at_call 10; refine ht.mono ?_; rintro e w5 ⟨rfl, hl5, hc5⟩)
            have HT5 := Lib.hid (HT1.out.took hl5 hc5 hat)
            have hnew : Holds (w5.alloc (.cells #[.int .i64 x.id, .string x.lab, .int .i64 x.loc, .int .i64 x.time, .int .i64 x.hops, .int .i64 x.root, .int .u16 x.boot, .int .i64 x.way] 41)) w5.heap.size 41 (ev8 x).toArray := Holds.new w5 _ _
            have HT6 := Lib.hid (HT5.out.onto (below_alloc w5 (.cells #[.int .i64 x.id, .string x.lab, .int .i64 x.loc, .int .i64 x.time, .int .i64 x.hops, .int .i64 x.root, .int .u16 x.boot, .int .i64 x.way] 41)))
            obtain ⟨W6, hW6⟩ : ∃ W6, w5.alloc (.cells #[.int .i64 x.id, .string x.lab, .int .i64 x.loc, .int .i64 x.time, .int .i64 x.hops, .int .i64 x.root, .int .u16 x.boot, .int .i64 x.way] 41) = W6 := ⟨_, rfl⟩
            obtain ⟨nx, hnx⟩ : ∃ nx, w5.heap.size = nx := ⟨_, rfl⟩
            simp only [hW6, hnx] at hnew HT6 ⊢
            have x0 : W6.cell? ⟨nx, 0, none⟩ = some (.int .i64 x.id) := hnew.cell 0
            have x1 : W6.cell? ⟨nx, 1, none⟩ = some (.string x.lab) := hnew.cell 1
            have x2 : W6.cell? ⟨nx, 2, none⟩ = some (.int .i64 x.loc) := hnew.cell 2
            have x3 : W6.cell? ⟨nx, 3, none⟩ = some (.int .i64 x.time) := hnew.cell 3
            have x4 : W6.cell? ⟨nx, 4, none⟩ = some (.int .i64 x.hops) := hnew.cell 4
            have x5 : W6.cell? ⟨nx, 5, none⟩ = some (.int .i64 x.root) := hnew.cell 5
            have x6 : W6.cell? ⟨nx, 6, none⟩ = some (.int .u16 x.boot) := hnew.cell 6
            have x7 : W6.cell? ⟨nx, 7, none⟩ = some (.int .i64 x.way) := hnew.cell 7
            obtain ⟨gi, capi, curi, ei, hBi, hHi, hnci, hcmi, hcli, hcti⟩ : ∃ g cap, ∃ cur : List Value, Value.slice A I.length c = .slice (some ⟨g, 0, none⟩) I.length cap ∧ z + 3 ≤ g ∧ Holds W6 g 41 cur.toArray ∧ I.length ≤ cap ∧ cap ≤ maxLen ∧ cur.length = cap * 8 ∧ cur.take (I.length * 8) = evs I := by
              rcases own_open HT6.out.row with ⟨_, h0, _⟩ | h
              · omega
              · exact h
            simp only [Value.slice.injEq, true_and] at ei
            obtain ⟨rfl, rfl⟩ := ei
            have hin : ∀ j v, (ev8 x)[j]? = some v → W6.cell? ⟨gi, at' * 8 + j, none⟩ = some v := fun j v hv => by
              have h1 := evs_get I at' x HX.out j v hv
              have hj : j < 8 := (List.getElem?_eq_some_iff.1 hv).1
              rw [← hcti, List.getElem?_take, if_pos (by omega)] at h1
              rw [hHi.cell, List.getElem?_toArray]
              exact h1
            have y0 : W6.cell? ⟨gi, at' * 8, none⟩ = some (.int .i64 x.id) := hin 0 _ rfl
            have y1 : W6.cell? ⟨gi, at' * 8 + 1, none⟩ = some (.string x.lab) := hin 1 _ rfl
            have y2 : W6.cell? ⟨gi, at' * 8 + 2, none⟩ = some (.int .i64 x.loc) := hin 2 _ rfl
            have y3 : W6.cell? ⟨gi, at' * 8 + 3, none⟩ = some (.int .i64 x.time) := hin 3 _ rfl
            have y4 : W6.cell? ⟨gi, at' * 8 + 4, none⟩ = some (.int .i64 x.hops) := hin 4 _ rfl
            have y5 : W6.cell? ⟨gi, at' * 8 + 5, none⟩ = some (.int .i64 x.root) := hin 5 _ rfl
            have y6 : W6.cell? ⟨gi, at' * 8 + 6, none⟩ = some (.int .u16 x.boot) := hin 6 _ rfl
            have y7 : W6.cell? ⟨gi, at' * 8 + 7, none⟩ = some (.int .i64 x.way) := hin 7 _ rfl
            have hneq := fun W => ev_neq_same x W
            clear hin hnew hW6 hnx hHi hcti hcli hcmi hnci hl5 hc5 ht HT5 HT1
            go_quiet (fail)
            go_wp2
            go_roundw
            case rel => exact ⟨k + 1, I, at' + 1, _, _, by omega, by omega, by go_num, by go_num, rfl, HT6.out.onto (below_drewN (Below.refl _ _) _)⟩
            case measure => simp [intOf]; omega
        · replace hat : I.length ≤ at' := Nat.le_of_not_lt hat
          as_aux_lemma =>
            have hdrop : I.drop at' = [] := List.drop_eq_nil_of_le hat
            have hlog := HT1.out.log
            rw [hdrop] at hlog
            have ht := take_zero _ _ _ _ _ _ hlog
            have da : decide ((at' : Int) < (I.length : Int)) = false := decide_eq_false (by omega)
            have da2 : decide (at' < I.length) = false := decide_eq_false (by omega)
            clear hlog
            go_upto_region 15 with (go_at_call 10; refine ht.mono ?_; rintro e w5 ⟨rfl, hl5, hc5⟩)
            have HT5 := Lib.hid (HT1.out.stays (by rw [hdrop]; exact hl5) hc5)
            have HT6 := Lib.hid (HT5.out.onto (below_alloc w5 (.cells #[.int .i64 0, .string ⟨#[]⟩, .int .i64 0, .int .i64 0, .int .i64 0, .int .i64 0, .int .u16 0, .int .i64 0] 41)))
            clear ht HT5 HT1 hl5 hc5 hdrop
            go_quiet (fail)
            go_wp2
            go_roundw
            case rel => exact ⟨k + 1, I, at', A, c, by omega, by omega, by go_num, rfl, rfl, HT6.out.onto (below_drewN (Below.refl _ _) _)⟩
            case measure => simp [intOf]; omega
      · have k2 : (s0 == 2) = false := by simpa using hs
        clear hs
        rcases good_ways (⟨(I.length : Int) + 1, s1, s2, s3, s4, s5, s6, s7⟩ : Ev) _ _ _ _ _ _ _ HT1.out.log (by omega) (by omega) rfl with hg | ⟨hg, hlf⟩ | ⟨hg, hlf⟩
        · as_aux_lemma =>
            have ht := tag_bad (⟨(I.length : Int) + 1, s1, s2, s3, s4, s5, s6, s7⟩ : Ev) (wr.alloc (.cells #[.int .i64 s0, .string s1, .int .i64 s2, .int .i64 s3, .int .i64 s4, .int .i64 s5, .int .u16 s6, .int .i64 s7] 47)) (z + 2) hg
            dsimp only at ht
            go_upto_region 24 with (go_at_call 9; (with_reducible refine ht.mono ?_); rintro e w5 ⟨rfl, hb5⟩)
            have HT5 := Lib.hid (HT1.out.onto hb5)
            have hm16 := HT5.out.log.len
            have hdl : (I.drop at').length = I.length - at' := List.length_drop
            have hle := HT5.out.le
            have hlen := llen_any _ _ _ _ _ _ _ HT5.out.log
            obtain ⟨m, hm⟩ : ∃ m, (I.drop at').length = m := ⟨_, rfl⟩
            rw [hm] at hlen hdl hm16
            have em : IntKind.i64.wrap (((I.length : Nat) : Int) - (at' : Int)) = (m : Int) := by rw [IntWalk.i64_in _ (by omega)]; omega
            have dm : decide (16 < (m : Int)) = false := decide_eq_false (by omega)
            have dm2 : decide (16 < m) = false := decide_eq_false (by omega)
            clear hm hdl hle
            clear ht HT1 hb5
            go_wp2_with (go_at_call 11; (with_reducible refine hlen.mono ?_); rintro e wx ⟨rfl, hwx⟩; subst wx)
            go_roundw
            case rel => exact ⟨k + 1, I, at', A, c, by omega, by omega, by go_num, rfl, rfl, HT5.out⟩
            case measure => simp [intOf]; omega
        · as_aux_lemma =>
            have ht := tag_full (⟨(I.length : Int) + 1, s1, s2, s3, s4, s5, s6, s7⟩ : Ev) _ _ _ _ _ _ _ HT1.out.log hg (by omega) (by omega) rfl hlf
            dsimp only at ht
            go_upto_region 24 with (go_at_call 9; (with_reducible refine ht.mono ?_); rintro e w5 ⟨rfl, hb5⟩)
            have HT5 := Lib.hid (HT1.out.onto hb5)
            have hm16 := HT5.out.log.len
            have hdl : (I.drop at').length = I.length - at' := List.length_drop
            have hle := HT5.out.le
            have hlen := llen_any _ _ _ _ _ _ _ HT5.out.log
            obtain ⟨m, hm⟩ : ∃ m, (I.drop at').length = m := ⟨_, rfl⟩
            rw [hm] at hlen hdl hm16
            have em : IntKind.i64.wrap (((I.length : Nat) : Int) - (at' : Int)) = (m : Int) := by rw [IntWalk.i64_in _ (by omega)]; omega
            have dm : decide (16 < (m : Int)) = false := decide_eq_false (by omega)
            have dm2 : decide (16 < m) = false := decide_eq_false (by omega)
            clear hm hdl hle
            clear ht HT1 hb5
            go_wp2_with (go_at_call 11; (with_reducible refine hlen.mono ?_); rintro e wx ⟨rfl, hwx⟩; subst wx)
            go_roundw
            case rel => exact ⟨k + 1, I, at', A, c, by omega, by omega, by go_num, rfl, rfl, HT5.out⟩
            case measure => simp [intOf]; omega
        · obtain ⟨u, hu⟩ : ∃ u, (I.length : Int) + 1 = u := ⟨_, rfl⟩
          have HXI := Lib.hid hu.symm
          have ht := tag_any (⟨u, s1, s2, s3, s4, s5, s6, s7⟩ : Ev) _ _ _ _ _ _ _ HT1.out.log hg (by omega) (by omega) hu.symm hlf
          have HO := Lib.hid (Holds.new wr 47 #[.int .i64 s0, .string s1, .int .i64 s2, .int .i64 s3, .int .i64 s4, .int .i64 s5, .int .u16 s6, .int .i64 s7])
          have hcq : wr.heap.size < (wr.alloc (.cells #[.int .i64 s0, .string s1, .int .i64 s2, .int .i64 s3, .int .i64 s4, .int .i64 s5, .int .u16 s6, .int .i64 s7] 47)).heap.size := by simp
          have hcz : z + 3 ≤ wr.heap.size := HTs.out.size
          dsimp only at ht
          clear hu
          go_upto_region 21 with (go_at_call 9; (with_reducible refine ht.mono ?_); rintro e w5 ⟨rfl, hl5, hc5⟩)
          have HT5 := Lib.hid (HT1.out.tagged hl5 hc5 HXI.out)
          have HO5 := Lib.hid (HO.out.chg hc5 (fun hp => by have := lpart_lt _ hp; omega))
          obtain ⟨cq, hcqe⟩ : ∃ cq, wr.heap.size = cq := ⟨_, rfl⟩
          simp only [hcqe] at HO5 ⊢
          obtain ⟨x, hxe⟩ : ∃ x, (⟨u, s1, s2, s3, s4, s5, s6, s7⟩ : Ev) = x := ⟨_, rfl⟩
          have hxi : x.id = u := by rw [← hxe]
          rw [hxe] at HT5
          have o1 : w5.cell? ⟨cq, 1, none⟩ = some (.string s1) := HO5.out.cell 1
          have o2 : w5.cell? ⟨cq, 2, none⟩ = some (.int .i64 s2) := HO5.out.cell 2
          have o3 : w5.cell? ⟨cq, 3, none⟩ = some (.int .i64 s3) := HO5.out.cell 3
          have o4 : w5.cell? ⟨cq, 4, none⟩ = some (.int .i64 s4) := HO5.out.cell 4
          have o5 : w5.cell? ⟨cq, 5, none⟩ = some (.int .i64 s5) := HO5.out.cell 5
          have o6 : w5.cell? ⟨cq, 6, none⟩ = some (.int .u16 s6) := HO5.out.cell 6
          have o7 : w5.cell? ⟨cq, 7, none⟩ = some (.int .i64 s7) := HO5.out.cell 7
          have hnew : Holds (w5.alloc (.cells #[.int .i64 u, .string s1, .int .i64 s2, .int .i64 s3, .int .i64 s4, .int .i64 s5, .int .u16 s6, .int .i64 s7] 41)) w5.heap.size 41 (ev8 x).toArray := by rw [← hxe]; exact Holds.new w5 _ _
          have HX := Lib.hid hnew
          have HT6 := Lib.hid (HT5.out.onto (below_alloc w5 (.cells #[.int .i64 u, .string s1, .int .i64 s2, .int .i64 s3, .int .i64 s4, .int .i64 s5, .int .u16 s6, .int .i64 s7] 41)))
          have HUI0 := HXI.out
          replace HXI : Hid (x.id = (I.length : Int) + 1) := Lib.hid (by rw [hxi]; exact HXI.out)
          have HPush := Lib.hid (fun (A7 : Option Addr) (c7 : Nat) (w7 : World) => HT6.out.pushed (A' := A7) (c' := c7) (w' := w7))
          have HRow := Lib.hid HT6.out.row
          have HSz := Lib.hid HT6.out.size
          obtain ⟨n, hn⟩ : ∃ n, I.length = n := ⟨_, rfl⟩
          rw [hn] at HPush HRow hIk hale HXI HUI0
          have HUI := Lib.hid HUI0
          simp only [hn]
          have HNN := Lib.hid hn
          clear ht HT1 HO hl5 hc5 hcqe hnew HT5 HO5 hcq hcz HT6 hn hxe hxi HUI0
          have HN5 := Lib.hid (show n ≤ 100000 by omega)
          have HAT := Lib.hid hale
          have hle1 := fun (x : Ev) => (show (I ++ [x]).length = n + 1 by rw [← HNN.out]; simp)
          have HL1 := Lib.hid (hle1 x)
          have HFacts := Lib.hid (fun (A7 : Option Addr) (c7 : Nat) (w7 : World) (h : Ord w z (I ++ [x]) at' A7 c7 w7) => (show ∃ m : Nat, ((I ++ [x]).drop at').length = m ∧ IntKind.i64.wrap (((n + 1 : Nat) : Int) - (at' : Int)) = (m : Int) ∧ IntKind.i64.wrap ((n : Int) + 1 - (at' : Int)) = (m : Int) ∧ decide (16 < (m : Int)) = false ∧ decide (16 < m) = false from by
            have hm16 := h.log.len
            have hdl : ((I ++ [x]).drop at').length = (I ++ [x]).length - at' := List.length_drop
            rw [HL1.out] at hdl
            refine ⟨_, rfl, ?_, ?_, decide_eq_false (by omega), decide_eq_false (by omega)⟩
            · rw [IntWalk.i64_in _ (by omega)]; omega
            · rw [IntWalk.i64_in _ (by omega)]; omega))
          have dn1 : (u != ((n + 1 : Nat) : Int)) = false := by rw [HUI.out]; simp
          have dn2 : (u != (n : Int) + 1) = false := by rw [HUI.out]; simp
          clear hle1
          go_wp2_with (first
            | (at_builtin; refine wpList_pushK rfl (.tmp 69) (.tmp 78) 54 rfl (z + 3) 41 (.agg #[.int .i64 0, .string ⟨#[]⟩, .int .i64 0, .int .i64 0, .int .i64 0, .int .i64 0, .int .u16 0, .int .i64 0]) 8 72 Try.underlying54 RE.e_info rfl (by omega) A n c (evs I) rfl HRow.out w5.heap.size 41 (ev8 x) rfl HX.out rfl (ev8_one x) HN5.out (by decide) HSz.out ?_; intro A7 c7 w7 hown7 hb7; have HT5 := Lib.hid (HPush.out A7 c7 w7 hown7 hb7); have hlen := llen_any _ _ _ _ _ _ _ HT5.out.log; obtain ⟨m, hm, em, em2, dm, dm2⟩ := HFacts.out A7 c7 w7 HT5.out; rw [hm] at hlen; clear hown7 hb7 hm)
            | (go_at_call 11; (with_reducible refine hlen.mono ?_); rintro e wx ⟨rfl, hwx⟩; subst wx))
          go_roundw
          case rel => exact ⟨k + 1, I ++ [x], at', A7, c7, by omega, by rw [HL1.out]; omega, by go_num, rfl, by rw [HL1.out], HT5.out⟩
          case measure => simp [intOf]; omega
    · have HB := Lib.hid HT.out.below
      clear HT
      go_wp2
      go_ret
      exact ⟨rfl, HB.out⟩

set_option maxRecDepth 100000 in
theorem lifted (os : Os) (started : os.Started) (H : Type) (enc : TypeId × Value → H) :
    ReturnsInHanded {} Try.checked os 4 .any (Rows.eventOrderSpec.pre6 enc Try.prog Try.f4 Rows.eventOrderRow.domain false) (Rows.eventOrderSpec.post enc Try.prog Try.f4 false true false false) := by
  refine returnsInHanded_of_change (C := Try.checked) own started (by kernel_rfl) Try.func4
    (ChangeSpec.witness6 (enc := enc) (C := Try.checked) false ⟨#[], #[.slice none 0 0], []⟩ 8 (by kernel_rfl) (by kernel_rfl) (by kernel_rfl) (by kernel_rfl)) ?_
  intro W base args ds gs before hval0 hW hcnd _
  have hval : ∀ (j : Nat) t v, Try.f4.params[j]? = some t → args[j]? = some v → Value.okWide Try.prog W .any base t v := hval0
  have hW' := hW
  obtain ⟨p, q, hA0, hV, rfl, hfz, hnd⟩ := hW
  have hA : DataW.TrodAll enc Try.prog W 0 (fun _ => true) true Try.f4.params.toList args.toList ds p := hA0
  have hAk := hA
  rw [Try.params4] at hA hval
  obtain ⟨v0, vs0, d0, ds0, p0, q0, hargs, rfl, hp, h0, r0⟩ := trodAll_cons hA
  obtain ⟨rfl, rfl, rfl⟩ := trodAll_nil r0
  obtain rfl : args = #[v0] := by cases args; simp_all
  obtain ⟨rfl, rfl⟩ := trodVars_none hV
  clear hA0 hval0 hargs
  simp only [List.append_nil] at hW'
  have hend : ∀ W' : World, Below W.heap.size W W' → Rows.eventOrderSpec.post enc Try.prog Try.f4 false true false false W #[v0] (.bool true) W' := fun W' hb =>
    law_post (tb := 4) hW' hAk rfl (by kernel_rfl) (by kernel_rfl) (by kernel_rfl) Try.underlying4 rfl rfl rfl hb
  clear hW' hAk hp
  obtain ⟨A0, n0, c0, f0, rfl, w0⟩ := flats_arg (ks := [.int .i64, .str, .int .i64, .int .i64, .int .i64, .int .i64, .int .u16, .int .i64]) 9 Try.underlying22 (by kernel_rfl) (by kernel_rfl) (by decide) (hval 0 22 v0 rfl rfl) h0
  refine (walk A0 n0 c0 f0 W w0).mono fun e W' ⟨he, hg⟩ => ?_
  subst he
  exact ⟨_, rfl, hend W' hg⟩

theorem over : Rows.eventOrderRow.holds Try.pinned (OpenSpec.ofChange Rows.eventOrderSpec) :=
  OpenClaim.holds_of_wide 4 Try.f4 rfl rfl rfl rfl rfl rfl rfl ⟨rfl, rfl, rfl, rfl, rfl⟩ rfl rfl rfl rfl rfl (by kernel_rfl) Try.func4 (by kernel_rfl)
    (of_decide_eq_true (by kernel_rfl)) (by unfold Func.isWrapper; first | (rw [if_pos (by decide +kernel)]; kernel_rfl) | (rw [if_neg (by decide +kernel)]; exact ⟨rfl, rfl⟩))
    (fun os started H enc _ => lifted os started H enc)

/-- THE STATEMENT -/
theorem proved : Rows.EventOrderSaid :=
  over
#print axioms proved
end Go.Proofs.Ytjifnnloncanpaa.eventOrder
