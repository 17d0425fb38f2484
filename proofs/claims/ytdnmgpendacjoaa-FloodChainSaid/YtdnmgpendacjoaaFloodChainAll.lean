/-
  Through a row of nodes a root's time goes on by what goes by on each node's own clock while it is held, and the hops by one each.
  The walk is the prover's own; the frame of the row's step follows the kit's template.
-/
import Derived.Test.YtdnmgpendacjoaaRows
import Derived.Test.YtdnmgpendacjoaaGrpFl1
import Derived.Test.YtdnmgpendacjoaaGrpFloodChain4
import Derived.Test.YtdnmgpendacjoaaGrpFl3
import Derived.Deep.QuietTactic
import Derived.BigQuiet
namespace Go.Proofs.Ytdnmgpendacjoaa.floodChain
open Go.ChangeShapes Go.WideShapes Go.ChangeAt Go.RowKit Go.ChangeMaps Go.WideElems
set_option linter.unusedVariables false

theorem split14 {ns : List Int} (h : ns.length = 14) : ∃ s0_0 s0_1 s0_2 s0_3 s0_4 s0_5 s0_6 s0_7 s0_8 s0_9 s0_10 s0_11 s0_12 s0_13 : Int, ns = [s0_0, s0_1, s0_2, s0_3, s0_4, s0_5, s0_6, s0_7, s0_8, s0_9, s0_10, s0_11, s0_12, s0_13] := by
  match ns, h with
  | [y0, y1, y2, y3, y4, y5, y6, y7, y8, y9, y10, y11, y12, y13], _ => exact ⟨_, _, _, _, _, _, _, _, _, _, _, _, _, _, rfl⟩
theorem own : ownKnob Try.prog.godebug = none := by kernel_rfl
/-- What a new node of a row makes of a root's word. -/
theorem chain_all {i T lo H x q : Int} (h0 : 0 ≤ i) (h1 : i ≤ 60) (hx : F16 x) (hq : F16 q) (t0 : 0 ≤ T) (t1 : T ≤ 2199023255552) (l0 : 0 ≤ lo) (l1 : lo ≤ 1099511627776) (k0 : 0 ≤ H) (k1 : H ≤ 1073741824) :
    ∃ f1 F : FS, hearFV (newF (i + 1) 1000 0 1 10 0) 0 x q T i lo = 2 ∧ hearFS (newF (i + 1) 1000 0 1 10 0) 0 x q T i lo = f1 ∧ FInv f1 ∧ beatF f1 = F ∧ FInv F ∧ Says F (lo + H) (i + 1, 0, x, q, i + 1, T + H) true F ∧ Tells F (lo + H) (T + H) (i + 1) 0 := by
  have hg : fgoodB (i + 1) 1000 0 1 10 = true := by
    unfold fgoodB goodB
    rw [decide_eq_true (show 0 ≤ i + 1 ∧ i + 1 < 64 ∧ (1 : Int) ≤ 1000 ∧ (1000 : Int) ≤ 1000 ∧ (0 : Int) ≤ 0 ∧ (0 : Int) ≤ 1000 by omega)]
    rfl
  have hcan : canB T i lo = true := canB_iff.2 ⟨⟨h0, by omega⟩, ⟨l0, by omega⟩, ⟨t0, by omega⟩⟩
  have ht : takeB (newS (i + 1) 1000 0 0) 0 x q = true := by
    unfold takeB
    rw [heed_yes (s := newS (i + 1) 1000 0 0) ⟨Int.le_refl 0, by show 0 < i + 1; omega, by
      rw [if_neg (by show ¬ (-1 : Int) = i + 1; omega)]
      exact .inl rfl⟩]
    rfl
  have hv : hearV (newS (i + 1) 1000 0 0) 0 x q = 2 := by
    unfold hearV
    rw [ht]
    rfl
  have hv2 : hearFV (newF (i + 1) 1000 0 1 10 0) 0 x q T i lo = 2 := by
    unfold hearFV
    rw [hcan]
    exact hv
  have hS : hearS (newS (i + 1) 1000 0 0) 0 x q = { newS (i + 1) 1000 0 0 with root := 0, waited := 0, f := fun j => if j = 0 then some (x, q) else none } := by
    unfold hearS
    rw [ht]
    rfl
  have hF1 : hearFS (newF (i + 1) 1000 0 1 10 0) 0 x q T i lo = ⟨{ newS (i + 1) 1000 0 0 with root := 0, waited := 0, f := fun j => if j = 0 then some (x, q) else none }, 1, 10, [(lo, T - lo, i + 1)], lo, T, i + 1⟩ := by
    unfold hearFS
    rw [hv2, if_neg (by decide)]
    show (moveF ((newF (i + 1) 1000 0 1 10 0).at (hearS (newS (i + 1) 1000 0 0) 0 x q)) (hearV (newS (i + 1) 1000 0 0) 0 x q)).keep T i lo = _
    rw [hv, hS]
    rfl
  have hI1 : FInv (hearFS (newF (i + 1) 1000 0 1 10 0) 0 x q T i lo) := (FInv.new hg ⟨by decide, by decide⟩).hear _ _ _ _ _ _ hx hq
  rw [hF1] at hI1
  have hbn : ¬ ((0 : Int) = i + 1) := by omega
  have hF : beatF ⟨{ newS (i + 1) 1000 0 0 with root := 0, waited := 0, f := fun j => if j = 0 then some (x, q) else none }, 1, 10, [(lo, T - lo, i + 1)], lo, T, i + 1⟩ = ⟨{ newS (i + 1) 1000 0 0 with root := 0, waited := 1, f := fun j => if j = 0 then some (x, q) else none }, 1, 10, [(lo, T - lo, i + 1)], lo, T, i + 1⟩ := by
    unfold beatF beatB beatS
    simp [hbn, newS, FS.at]
  have hI2 := hI1.beat
  rw [hF] at hI2
  have hmin : minB ⟨{ newS (i + 1) 1000 0 0 with root := 0, waited := 1, f := fun j => if j = 0 then some (x, q) else none }, 1, 10, [(lo, T - lo, i + 1)], lo, T, i + 1⟩ = false := decide_eq_false hbn
  refine ⟨_, _, hv2, hF1, hI1, hF, hI2, .inr (.inr (.inr (.inl ⟨decide_eq_true (by omega), hmin, decide_eq_true (.inr (by show (1 : Int) ≤ 1; omega)), ?_, ?_, rfl, rfl⟩))), ?_⟩
  · show timeB (T + (lo + H - lo)) = true
    exact decide_eq_true (by omega)
  · show _ = (i + 1, 0, (saidV _).1, (saidV _).2, i + 1, T + (lo + H - lo))
    unfold saidV
    simp only [newS]
    rw [if_neg hbn, if_neg (show ¬ (0 : Int) = -1 by decide), show T + (lo + H - lo) = T + H by omega]
    rfl
  · have k := single_tells (f := ⟨{ newS (i + 1) 1000 0 0 with root := 0, waited := 1, f := fun j => if j = 0 then some (x, q) else none }, 1, 10, [(lo, T - lo, i + 1)], lo, T, i + 1⟩) (e := (lo, T - lo, i + 1)) (lo := lo + H) rfl (canE_of hcan) hmin rfl ⟨by omega, by omega⟩ (by dsimp only; exact ⟨by omega, by omega⟩)
    have e : lo + H + (T - lo) = T + H := by omega
    dsimp only at k
    rw [e] at k
    exact k
theorem sync_row {wr : World} {gs : Nat} {C : List Value} (h : Holds wr gs 43 C.toArray) (hC : C.length = 6) (W : W6) : Holds (wr.setRow gs (splice C 0 (wordC W)).toArray) gs 43 (wordC W).toArray ∧ Chg (fun k => k = gs) wr (wr.setRow gs (splice C 0 (wordC W)).toArray) := by
  rw [splice_all C (wordC W) (by rw [hC]; rfl)]
  exact ⟨h.row _, Chg.of_grown (grown_row wr gs _) (fun k e => by cases e; rfl)⟩
set_option linter.unusedSimpArgs false in
set_option maxHeartbeats 8000000 in
set_option maxRecDepth 100000 in
theorem walk (s0_0 s0_1 s0_2 s0_3 s0_4 s0_5 s0_6 s0_7 s0_8 s0_9 s0_10 s0_11 s0_12 s0_13 : Int) (A1 : Option Addr) (n1 c1 : Nat) (z1 : List Int) (A2 : Option Addr) (n2 c2 : Nat) (z2 : List Int) (w : World) (w0_0 : (Lit.int .i64 s0_0).wf = true) (w0_1 : (Lit.int .i64 s0_1).wf = true) (w0_2 : (Lit.int .i64 s0_2).wf = true) (w0_3 : (Lit.int .i64 s0_3).wf = true) (w0_4 : (Lit.int .u16 s0_4).wf = true) (w0_5 : (Lit.int .u16 s0_5).wf = true) (w0_6 : (Lit.int .i64 s0_6).wf = true) (w0_7 : (Lit.int .i64 s0_7).wf = true) (w0_8 : (Lit.int .i64 s0_8).wf = true) (w0_9 : (Lit.int .i64 s0_9).wf = true) (w0_10 : (Lit.int .i64 s0_10).wf = true) (w0_11 : (Lit.int .i64 s0_11).wf = true) (w0_12 : (Lit.int .i64 s0_12).wf = true) (w0_13 : (Lit.int .i64 s0_13).wf = true) (w1 : IntRow w .i64 A1 n1 c1 z1) (w2 : IntRow w .i64 A2 n2 c2 z2) :
    Calls Try.prog 5 #[.agg #[.int .i64 s0_0, .int .i64 s0_1, .int .i64 s0_2, .int .i64 s0_3, .int .u16 s0_4, .int .u16 s0_5, .int .i64 s0_6, .int .i64 s0_7, .int .i64 s0_8, .int .i64 s0_9, .int .i64 s0_10, .int .i64 s0_11, .int .i64 s0_12, .int .i64 s0_13], .slice A1 n1 c1, .slice A2 n2 c2] w fun e w' => e = .returned (.bool true) ∧ Below w.heap.size w w' := by
  have HB0 := Lib.hid (Box.start w 37 #[.int .i64 s0_0, .int .i64 s0_1, .int .i64 s0_2, .int .i64 s0_3, .int .u16 s0_4, .int .u16 s0_5, .int .i64 s0_6, .int .i64 s0_7, .int .i64 s0_8, .int .i64 s0_9, .int .i64 s0_10, .int .i64 s0_11, .int .i64 s0_12, .int .i64 s0_13])
  have hcap1 := w1.cap_le
  have hmx1 := w1.max
  have hcap2 := w2.cap_le
  have hmx2 := w2.max
  unfold maxLen at hmx1 hmx2
  have R1 := Lib.hid w1
  have R2 := Lib.hid w2
  have fx := f16_wf w0_4
  have fq := f16_wf w0_5
  have ff := fits_wf w0_1
  clear w1 w2 w0_0 w0_1 w0_2 w0_3 w0_4 w0_5 w0_6 w0_7 w0_8 w0_9 w0_10 w0_11 w0_12 w0_13
  by_cases hout : 60 < n1 ∨ n2 < n1 ∨ s0_6 ≠ 0 ∨ s0_3 ≠ 0 ∨ s0_7 < 0 ∨ 1099511627776 < s0_7
  · have hcase : decide ((60 : Int) < (n1 : Int)) = true ∨ decide ((60 : Int) < (n1 : Int)) = false ∧ (decide (n2 < n1) = true ∨ decide (n2 < n1) = false ∧ ((s0_6 != 0) = true ∨ (s0_6 != 0) = false ∧ ((s0_3 != 0) = true ∨ (s0_3 != 0) = false ∧ (decide (s0_7 < 0) = true ∨ decide (s0_7 < 0) = false ∧ decide (1099511627776 < s0_7) = true)))) := by
      by_cases e1 : (60 : Int) < (n1 : Int)
      · exact .inl (decide_eq_true e1)
      refine .inr ⟨decide_eq_false e1, ?_⟩
      by_cases e2 : n2 < n1
      · exact .inl (decide_eq_true e2)
      refine .inr ⟨decide_eq_false e2, ?_⟩
      by_cases e3 : s0_6 = 0
      · refine .inr ⟨by simp [e3], ?_⟩
        by_cases e4 : s0_3 = 0
        · refine .inr ⟨by simp [e4], ?_⟩
          by_cases e5 : s0_7 < 0
          · exact .inl (decide_eq_true e5)
          · exact .inr ⟨decide_eq_false e5, decide_eq_true (by omega)⟩
        · exact .inl (by simp [e4])
      · exact .inl (by simp [e3])
    clear hout
    rcases hcase with d1 | ⟨d1, d2 | ⟨d2, d3 | ⟨d3, d4 | ⟨d4, d5 | ⟨d5, d6⟩⟩⟩⟩⟩ <;>
    · go_enter Try.func5, Try.ntmps5
      go_wp2_with (go_at_call 7; refine (alive_yes _).mono ?_; rintro e w1 ⟨rfl, hb1⟩; replace HB0 := Lib.hid (HB0.out.next hb1); have b3 := HB0.out.holds.cell 3; have b6 := HB0.out.holds.cell 6; have b7 := HB0.out.holds.cell 7; clear hb1)
      go_ret
      exact ⟨rfl, HB0.out.below⟩
  have hn1 : ¬ (60 : Int) < (n1 : Int) := by omega
  have hn2 : ¬ n2 < n1 := by omega
  have d1 : decide ((60 : Int) < (n1 : Int)) = false := decide_eq_false hn1
  have d2 : decide (n2 < n1) = false := decide_eq_false hn2
  obtain rfl : s0_6 = 0 := by omega
  obtain rfl : s0_3 = 0 := by omega
  have d5 : decide (s0_7 < 0) = false := decide_eq_false (by omega)
  have d6 : decide (1099511627776 < s0_7) = false := decide_eq_false (by omega)
  have t0 : 0 ≤ s0_7 := by omega
  have t1 : s0_7 ≤ 1099511627776 := by omega
  clear hout
  go_enter Try.func5, Try.ntmps5
  go_wp2_with (first
    | (go_at_call 7; refine (alive_yes _).mono ?_; rintro e w1 ⟨rfl, hb1⟩; have HB1 := Lib.hid (HB0.out.next hb1); have b0 := HB1.out.holds.cell 0; have b1 := HB1.out.holds.cell 1; have b2 := HB1.out.holds.cell 2; have b3 := HB1.out.holds.cell 3; have b4 := HB1.out.holds.cell 4; have b5 := HB1.out.holds.cell 5; have b6 := HB1.out.holds.cell 6; have b7 := HB1.out.holds.cell 7; have b8 := HB1.out.holds.cell 8; have b9 := HB1.out.holds.cell 9; have b10 := HB1.out.holds.cell 10; have b11 := HB1.out.holds.cell 11; have b12 := HB1.out.holds.cell 12; have b13 := HB1.out.holds.cell 13; clear hb1)
    | (go_at_call 11; refine (lsync_any _ _ _ _ _ _ _ _ _ _ _ _ _ _ _).mono ?_; rintro e w2 ⟨rfl, hb2⟩; clear b0 b1 b2 b3 b4 b5 b6 b7 b8 b9 b10 b11 b12 b13; have HB2 := Lib.hid ((HB1.out.next hb2).alloc (.cells #[.int .i64 s0_1, .int .i64 0, .int .u16 s0_4, .int .u16 s0_5, .int .i64 0, .int .i64 s0_7] 43)); have HS2 := Lib.hid (Holds.new w2 43 #[.int .i64 s0_1, .int .i64 0, .int .u16 s0_4, .int .u16 s0_5, .int .i64 0, .int .i64 s0_7]); have b7 := HB2.out.holds.cell 7; have hw2 := (HB1.out.next hb2).lt; clear hb2))
  clear HB0 HB1 b7 d1 d2 d5 d6
  go_loopw [8, 56] (fun want i wr => ∃ (k : Nat) (T fr : Int), k ≤ n1 ∧ i = .int .i64 k ∧ want = .int .i64 T ∧ (0 ≤ T ∧ T ≤ 1099511627776 + k * 1073741824) ∧ Fits fr ∧ Box w 37 #[.int .i64 s0_0, .int .i64 s0_1, .int .i64 s0_2, .int .i64 0, .int .u16 s0_4, .int .u16 s0_5, .int .i64 0, .int .i64 s0_7, .int .i64 s0_8, .int .i64 s0_9, .int .i64 s0_10, .int .i64 s0_11, .int .i64 s0_12, .int .i64 s0_13] wr ∧ Holds wr w2.heap.size 43 ([.int .i64 fr, .int .i64 0, .int .u16 s0_4, .int .u16 s0_5, .int .i64 (k : Int), .int .i64 T] : List Value).toArray) (fun _ i _ => n1 - (intOf i).toNat)
  case atStart => exact ⟨0, s0_7, s0_1, by omega, rfl, rfl, ⟨t0, by omega⟩, ff, HB2.out, HS2.out⟩
  case round =>
    obtain ⟨k, T, fr, hk, rfl, rfl, ⟨hT0, hT1⟩, hfr, hBX, hS⟩ := hrel
    have HBX := Lib.hid hBX
    have HS := Lib.hid hS
    clear hBX hS HB2 HS2
    by_cases hlt : k < n1
    · obtain ⟨A, off, rfl, hA, hc1⟩ := R1.out.cell (by omega)
      obtain ⟨A', off', rfl, hA', hc2⟩ := R2.out.cell (by omega)
      have hck1 := hc1 k hlt
      have hck2 := hc2 k (by omega)
      obtain ⟨Z, hZ⟩ : ∃ Z, z1.getD k 0 = Z := ⟨_, rfl⟩
      obtain ⟨H, hH⟩ : ∃ H, z2.getD k 0 = H := ⟨_, rfl⟩
      rw [hZ] at hck1
      rw [hH] at hck2
      have HC2 := Lib.hid (fun W (hb : Below w.heap.size w W) => (hb.cell (p := ⟨A', off' + k, none⟩) hA').trans hck2)
      have q1 := (HBX.out.below.cell (p := ⟨A, off + k, none⟩) hA).trans hck1
      have q2 := HC2.out _ HBX.out.below
      have hks : (k : Int) < n1 := by omega
      clear hc1 hc2 hck1 hck2 hZ hH
      by_cases hz : 0 ≤ Z ∧ Z ≤ 1099511627776 ∧ 0 ≤ H ∧ H ≤ 1073741824
      · obtain ⟨z0, z9, h0, h9⟩ := hz
        have d1 : decide (Z < 0) = false := decide_eq_false (by omega)
        have d2 : decide (1099511627776 < Z) = false := decide_eq_false (by omega)
        have d3 : decide (H < 0) = false := decide_eq_false (by omega)
        have d4 : decide (1073741824 < H) = false := decide_eq_false (by omega)
        have hg : fgoodB ((k : Int) + 1) 1000 0 1 10 = true := by
          unfold fgoodB goodB
          rw [decide_eq_true (show 0 ≤ (k : Int) + 1 ∧ (k : Int) + 1 < 64 ∧ (1 : Int) ≤ 1000 ∧ (1000 : Int) ≤ 1000 ∧ (0 : Int) ≤ 0 ∧ (0 : Int) ≤ 1000 by omega)]
          rfl
        have hI0 : FInv (newF ((k : Int) + 1) 1000 0 1 10 0) := FInv.new hg ⟨by decide, by decide⟩
        have e1 := IntWalk.i64_in (Z + H) (by omega)
        have e2 := IntWalk.i64_in (T + H) (by omega)
        have e3 := IntWalk.i64_in ((k : Int) + 1) (by omega)
        obtain ⟨f1, F, hv, hS1, hI1, hbF, hIF, hsays, htells⟩ := chain_all (i := (k : Int)) (T := T) (lo := Z) (H := H) (by omega) (by omega) fx fq hT0 (by omega) z0 z9 h0 h9
        have HN := Lib.hid (fun W => fnew_yes W ((k : Int) + 1) 1000 0 1 10 hg)
        have hhear := fun V gf g b (h : Fo V wr.heap.size gf g b 0 (newF ((k : Int) + 1) 1000 0 1 10 0)) => fhear_any V wr.heap.size gf g b 0 _ h hI0 (by omega) fr 0 s0_4 s0_5 (k : Int) T Z ⟨by decide, by decide⟩ fx fq
        unfold FHeard at hhear
        rw [hv, hS1] at hhear
        have HH := Lib.hid hhear
        have hbeat := fun V gf g b (h : Fo V wr.heap.size gf g b 1 f1) => fbeat_any V wr.heap.size gf g b 1 f1 h hI1 (Z + H) ⟨by omega, by omega⟩ _ true F (by rw [hbF]; exact hsays)
        unfold wordV at hbeat
        simp only [] at hbeat
        have HBt := Lib.hid hbeat
        have HT := Lib.hid (fun V gf g b (h : Fo V wr.heap.size gf g b 1 F) => ftell_any V wr.heap.size gf g b 1 F h hIF (Z + H) (T + H) ((k : Int) + 1) 0 htells)
        have g1 : (T + H != T + H) = false := by simp
        have g2 : ((k : Int) + 1 != (k : Int) + 1) = false := by simp
        have g3 : (s0_4 != s0_4) = false := by simp
        have g4 : (s0_5 != s0_5) = false := by simp
        clear hg hI0 hv hS1 hI1 hbF hIF hsays htells hhear hbeat
        go_wp2_with (first
          | (go_at_call 9; refine (lrules_any _ _ _ _ _).mono ?_; rintro e w3 ⟨rfl, hb3⟩; have H3 := Lib.hid hb3; clear hb3)
          | (go_at_call 8; refine (HN.out _).mono ?_; rintro e w4 ⟨gf, g, b, rfl, hF4, hb4⟩; have HF4 := Lib.hid (hF4.at H3.out.size); have H4 := Lib.hid (H3.out.trans (hb4.mono H3.out.size)); have hh := HH.out _ _ _ _ HF4.out; have HS4 := Lib.hid (HS.out.below H4.out HS.out.lt); have s0 := HS4.out.cell 0; have s1 := HS4.out.cell 1; have s2 := HS4.out.cell 2; have s3 := HS4.out.cell 3; have s4 := HS4.out.cell 4; have s5 := HS4.out.cell 5; clear hF4 hb4)
          | (go_at_call 10; refine hh.mono ?_; rintro e w5 ⟨rfl, b5, hF5, hc5, -⟩; have H5 := Lib.hid (Below.chg H4.out hc5 H4.out.size (fun k hk => by rcases hk with e | e | e <;> rw [e] <;> first | exact HF4.out.newer | exact HF4.out.node.newer.1 | exact HF4.out.node.newer.2)); have HF5 := Lib.hid hF5; have hbt := HBt.out _ _ _ _ hF5; have q5 := HC2.out _ (HBX.out.next H5.out).below; clear hh hF5 hc5 s0 s1 s2 s3 s4 s5 q1 q2)
          | (go_at_call 13; refine hbt.mono ?_; rintro e w6 ⟨rfl, b6, hF6, hc6, -⟩; have h6 := Below.chg H5.out hc6 H5.out.size (fun k hk => by rcases hk with e | e | e <;> rw [e] <;> first | exact HF5.out.newer | exact HF5.out.node.newer.1 | exact HF5.out.node.newer.2); have H6 := Lib.hid (h6.alloc (o := .cells #[.int .i64 ((k : Int) + 1), .int .i64 0, .int .u16 s0_4, .int .u16 s0_5, .int .i64 ((k : Int) + 1), .int .i64 (T + H)] 43) h6.size); have HF6 := Lib.hid (hF6.below (below_alloc w6 (.cells #[.int .i64 ((k : Int) + 1), .int .i64 0, .int .u16 s0_4, .int .u16 s0_5, .int .i64 ((k : Int) + 1), .int .i64 (T + H)] 43))); have HX := Lib.hid (Holds.new w6 43 #[.int .i64 ((k : Int) + 1), .int .i64 0, .int .u16 s0_4, .int .u16 s0_5, .int .i64 ((k : Int) + 1), .int .i64 (T + H)]); have ht := HT.out _ _ _ _ HF6.out; have q6 := HC2.out _ (HBX.out.next H6.out).below; clear hbt hF6 hc6 h6 q5)
          | (go_at_call 18; refine ht.mono ?_; rintro e w7 ⟨rfl, hb7⟩; have H7 := Lib.hid (H6.out.trans (hb7.mono H6.out.size)); have HX7 := Lib.hid (HX.out.below hb7 HX.out.lt); have x0 := HX7.out.cell 0; have x1 := HX7.out.cell 1; have x2 := HX7.out.cell 2; have x3 := HX7.out.cell 3; have x4 := HX7.out.cell 4; have x5 := HX7.out.cell 5; have HB7 := Lib.hid (HBX.out.next H7.out); have c4 := HB7.out.holds.cell 4; have c5 := HB7.out.holds.cell 5; have HS7 := Lib.hid (HS.out.below H7.out HS.out.lt); clear ht hb7 q6)
          | (refine wpList_store_at rfl 43 (.tmp 7) (.tmp 183) rfl w2.heap.size 0 (wordC ((k : Int) + 1, 0, s0_4, s0_5, (k : Int) + 1, T + H)) rfl rfl 43 [.int .i64 fr, .int .i64 0, .int .u16 s0_4, .int .u16 s0_5, .int .i64 (k : Int), .int .i64 T] HS7.out sync_size (Nat.le_refl 6) (wordC_one _) ?_))
        have HE := Lib.hid (sync_row HS7.out rfl ((k : Int) + 1, 0, s0_4, s0_5, (k : Int) + 1, T + H))
        go_roundw
        case rel => exact ⟨k + 1, T + H, (k : Int) + 1, by omega, by go_num, rfl, ⟨by omega, by omega⟩, ⟨by omega, by omega⟩, HB7.out.chg HE.out.2 (fun k e => by omega), HE.out.1⟩
        case measure => simp [intOf]; omega
      · have hcase : decide (Z < 0) = true ∨ decide (Z < 0) = false ∧ (decide (1099511627776 < Z) = true ∨ decide (1099511627776 < Z) = false ∧ (decide (H < 0) = true ∨ decide (H < 0) = false ∧ decide (1073741824 < H) = true)) := by
          by_cases e1 : Z < 0
          · exact .inl (decide_eq_true e1)
          refine .inr ⟨decide_eq_false e1, ?_⟩
          by_cases e2 : 1099511627776 < Z
          · exact .inl (decide_eq_true e2)
          refine .inr ⟨decide_eq_false e2, ?_⟩
          by_cases e3 : H < 0
          · exact .inl (decide_eq_true e3)
          · exact .inr ⟨decide_eq_false e3, decide_eq_true (by omega)⟩
        clear hz
        rcases hcase with d1 | ⟨d1, d2 | ⟨d2, d3 | ⟨d3, d4⟩⟩⟩ <;>
        · go_wp2
          go_ret
          exact ⟨rfl, HBX.out.below⟩
    · obtain rfl : k = n1 := by omega
      go_wp2
      go_ret
      exact ⟨rfl, HBX.out.below⟩

set_option maxRecDepth 100000 in
theorem lifted (os : Os) (started : os.Started) (H : Type) (enc : TypeId × Value → H) :
    ReturnsInHanded {} Try.checked os 5 .any (Rows.floodChainSpec.pre6 enc Try.prog Try.f5 Rows.floodChainRow.domain false) (Rows.floodChainSpec.post enc Try.prog Try.f5 false true false false) := by
  refine returnsInHanded_of_change (C := Try.checked) own started (by kernel_rfl) Try.func5
    (ChangeSpec.witness6 (enc := enc) (C := Try.checked) false ⟨#[], #[.agg #[.int .i64 0, .int .i64 0, .int .i64 0, .int .i64 0, .int .u16 0, .int .u16 0, .int .i64 0, .int .i64 0, .int .i64 0, .int .i64 0, .int .i64 0, .int .i64 0, .int .i64 0, .int .i64 0], .slice none 0 0, .slice none 0 0], []⟩ 8 (by kernel_rfl) (by kernel_rfl) (by kernel_rfl) (by kernel_rfl)) ?_
  intro W base args ds gs before hval0 hW hcnd _
  have hval : ∀ (j : Nat) t v, Try.f5.params[j]? = some t → args[j]? = some v → Value.okWide Try.prog W .any base t v := hval0
  have hW' := hW
  obtain ⟨p, q, hA0, hV, rfl, hfz, hnd⟩ := hW
  have hA : DataW.TrodAll enc Try.prog W 0 (fun _ => true) true Try.f5.params.toList args.toList ds p := hA0
  have hAk := hA
  rw [Try.params5] at hA hval
  obtain ⟨v0, vs0, d0, ds0, p0, q0, hargs, rfl, hp, h0, r0⟩ := trodAll_cons hA
  obtain ⟨v1, vs1, d1, ds1, p1, q1, rfl, rfl, rfl, h1, r1⟩ := trodAll_cons r0
  obtain ⟨v2, vs2, d2, ds2, p2, q2, rfl, rfl, rfl, h2, r2⟩ := trodAll_cons r1
  obtain ⟨rfl, rfl, rfl⟩ := trodAll_nil r2
  obtain rfl : args = #[v0, v1, v2] := by cases args; simp_all
  obtain ⟨rfl, rfl⟩ := trodVars_none hV
  clear hA0 hval0 hargs
  simp only [List.append_nil] at hW'
  have hend : ∀ W' : World, Below W.heap.size W W' → Rows.floodChainSpec.post enc Try.prog Try.f5 false true false false W #[v0, v1, v2] (.bool true) W' := fun W' hb =>
    law_post (tb := 4) hW' hAk rfl (by kernel_rfl) (by kernel_rfl) (by kernel_rfl) Try.underlying4 rfl rfl rfl hb
  clear hW' hAk hp
  obtain ⟨ns0, rfl, hl0, hw0⟩ := ints_struct (ks := [.i64, .i64, .i64, .i64, .u16, .u16, .i64, .i64, .i64, .i64, .i64, .i64, .i64, .i64]) Try.underlying37 (by kernel_rfl) (by kernel_rfl) (by kernel_rfl) (hval 0 37 v0 rfl rfl) h0
  obtain ⟨s0_0, s0_1, s0_2, s0_3, s0_4, s0_5, s0_6, s0_7, s0_8, s0_9, s0_10, s0_11, s0_12, s0_13, rfl⟩ := split14 hl0
  clear hl0
  obtain ⟨A1, n1, c1, z1, rfl, w1⟩ := ints_arg Try.underlying62 Try.underlying3 (by kernel_rfl) (hval 1 62 v1 rfl rfl) h1
  obtain ⟨A2, n2, c2, z2, rfl, w2⟩ := ints_arg Try.underlying62 Try.underlying3 (by kernel_rfl) (hval 2 62 v2 rfl rfl) h2
  refine (walk s0_0 s0_1 s0_2 s0_3 s0_4 s0_5 s0_6 s0_7 s0_8 s0_9 s0_10 s0_11 s0_12 s0_13 A1 n1 c1 z1 A2 n2 c2 z2 W (hw0 0 _ _ rfl rfl) (hw0 1 _ _ rfl rfl) (hw0 2 _ _ rfl rfl) (hw0 3 _ _ rfl rfl) (hw0 4 _ _ rfl rfl) (hw0 5 _ _ rfl rfl) (hw0 6 _ _ rfl rfl) (hw0 7 _ _ rfl rfl) (hw0 8 _ _ rfl rfl) (hw0 9 _ _ rfl rfl) (hw0 10 _ _ rfl rfl) (hw0 11 _ _ rfl rfl) (hw0 12 _ _ rfl rfl) (hw0 13 _ _ rfl rfl) w1 w2).mono fun e W' ⟨he, hg⟩ => ?_
  subst he
  exact ⟨_, rfl, hend W' hg⟩

theorem over : Rows.floodChainRow.holds Try.pinned (OpenSpec.ofChange Rows.floodChainSpec) :=
  OpenClaim.holds_of_wide 5 Try.f5 rfl rfl rfl rfl rfl rfl rfl ⟨rfl, rfl, rfl, rfl, rfl⟩ rfl rfl rfl rfl rfl (by kernel_rfl) Try.func5 (by kernel_rfl)
    (of_decide_eq_true (by kernel_rfl)) (by unfold Func.isWrapper; first | (rw [if_pos (by decide +kernel)]; kernel_rfl) | (rw [if_neg (by decide +kernel)]; exact ⟨rfl, rfl⟩))
    (fun os started H enc _ => lifted os started H enc)

/-- THE STATEMENT -/
theorem proved : Rows.FloodChainSaid :=
  over
#print axioms proved
end Go.Proofs.Ytdnmgpendacjoaa.floodChain
