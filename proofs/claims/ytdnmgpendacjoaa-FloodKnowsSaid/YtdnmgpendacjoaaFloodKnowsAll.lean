/-
  All entries are of the root that a node goes by, and a synced node that isn't the root has at least as many as it needs.
  The walk is the prover's own; the frame of the row's step follows the kit's template.
-/
import Derived.Test.YtdnmgpendacjoaaRows
import Derived.Test.YtdnmgpendacjoaaGrpFl1
import Derived.Test.YtdnmgpendacjoaaGrpFloodKnows4
import Derived.Test.YtdnmgpendacjoaaGrpFl3
import Derived.Deep.QuietTactic
import Derived.BigQuiet
import Derived.Deep.CutBlock
import Derived.Deep.CutRange
namespace Go.Proofs.Ytdnmgpendacjoaa.floodKnows
open Go.ChangeShapes Go.WideShapes Go.ChangeAt Go.RowKit Go.ChangeMaps Go.WideElems
set_option linter.unusedVariables false

theorem split4 {ns : List Int} (h : ns.length = 4) : ∃ s1_0 s1_1 s1_2 s1_3 : Int, ns = [s1_0, s1_1, s1_2, s1_3] := by
  match ns, h with
  | [y0, y1, y2, y3], _ => exact ⟨_, _, _, _, rfl⟩
theorem cells2 {W : World} {vs : List Value} (h : Fit W [.int .i64, .int .i64, .int .i64, .int .i64, .int .i64, .int .i64, .int .u16, .int .u16, .int .i64, .int .i64, .int .i64, .int .i64, .int .i64, .int .i64, .int .i64, .int .i64] vs) : ∃ (s0 : Int) (s1 : Int) (s2 : Int) (s3 : Int) (s4 : Int) (s5 : Int) (s6 : Int) (s7 : Int) (s8 : Int) (s9 : Int) (s10 : Int) (s11 : Int) (s12 : Int) (s13 : Int) (s14 : Int) (s15 : Int), vs = [.int .i64 s0, .int .i64 s1, .int .i64 s2, .int .i64 s3, .int .i64 s4, .int .i64 s5, .int .u16 s6, .int .u16 s7, .int .i64 s8, .int .i64 s9, .int .i64 s10, .int .i64 s11, .int .i64 s12, .int .i64 s13, .int .i64 s14, .int .i64 s15] ∧ (Lit.int .i64 s0).wf = true ∧ (Lit.int .i64 s1).wf = true ∧ (Lit.int .i64 s2).wf = true ∧ (Lit.int .i64 s3).wf = true ∧ (Lit.int .i64 s4).wf = true ∧ (Lit.int .i64 s5).wf = true ∧ (Lit.int .u16 s6).wf = true ∧ (Lit.int .u16 s7).wf = true ∧ (Lit.int .i64 s8).wf = true ∧ (Lit.int .i64 s9).wf = true ∧ (Lit.int .i64 s10).wf = true ∧ (Lit.int .i64 s11).wf = true ∧ (Lit.int .i64 s12).wf = true ∧ (Lit.int .i64 s13).wf = true ∧ (Lit.int .i64 s14).wf = true ∧ (Lit.int .i64 s15).wf = true := by
  match vs, h.length, h with
  | [y0, y1, y2, y3, y4, y5, y6, y7, y8, y9, y10, y11, y12, y13, y14, y15], _, h =>
    obtain ⟨⟨x0, rfl, h0⟩, ⟨x1, rfl, h1⟩, ⟨x2, rfl, h2⟩, ⟨x3, rfl, h3⟩, ⟨x4, rfl, h4⟩, ⟨x5, rfl, h5⟩, ⟨x6, rfl, h6⟩, ⟨x7, rfl, h7⟩, ⟨x8, rfl, h8⟩, ⟨x9, rfl, h9⟩, ⟨x10, rfl, h10⟩, ⟨x11, rfl, h11⟩, ⟨x12, rfl, h12⟩, ⟨x13, rfl, h13⟩, ⟨x14, rfl, h14⟩, ⟨x15, rfl, h15⟩, _⟩ := h
    exact ⟨x0, x1, x2, x3, x4, x5, x6, x7, x8, x9, x10, x11, x12, x13, x14, x15, rfl, h0, h1, h2, h3, h4, h5, h6, h7, h8, h9, h10, h11, h12, h13, h14, h15⟩
theorem own : ownKnob Try.prog.godebug = none := by kernel_rfl
theorem run_min3 (a b : Int) (w : World) : (Builtin.min_ #[3, 3] 3 #[.int .i64 a, .int .i64 b]).run Try.prog w = .ok (.int .i64 (if b < a then b else a)) w := by
  simp [Builtin.min_, Builtin.min2, go_sem]
theorem hear_need (f : FS) (r x q t hp lo : Int) : (hearFS f r x q t hp lo).need = f.need := by
  unfold hearFS moveF
  split
  · rfl
  · split <;> rfl
theorem beat_need (f : FS) : (beatF f).need = f.need := by unfold beatF; split <;> rfl
theorem says_need {f f' : FS} {lo : Int} {W : W6} {ok : Bool} (h : Says f lo W ok f') : f'.need = f.need := by
  rcases h with ⟨_, _, _, rfl⟩ | ⟨_, _, _, _, rfl⟩ | ⟨_, _, _, _, _, rfl⟩ | ⟨_, _, _, _, _, _, rfl⟩ | ⟨_, _, _, _, _, _, rfl⟩ <;> rfl
/-- How much is known behind a word. -/
theorem hear_count {f : FS} (h : FInv f) (r x q t hp lo : Int) (hx : F16 x) (hq : F16 q) : ∃ (V N0 N1 M : Int), hearFV f r x q t hp lo = V ∧ (f.L.length : Int) = N0 ∧ ((hearFS f r x q t hp lo).L.length : Int) = N1 ∧ 0 ≤ N0 ∧ N0 ≤ 8 ∧ (if 8 < N0 + 1 then 8 else N0 + 1) = M ∧
    (V = 0 ∧ N1 = N0 ∨ V = 2 ∧ N1 = 1 ∨ V = 1 ∧ N1 = M ∨ V = 1 ∧ N1 = 1 ∧ (1 != M) = true) := by
  have h8 := h.ents.le
  refine ⟨_, _, _, _, rfl, rfl, rfl, by omega, by omega, rfl, ?_⟩
  rcases hearF_ways h r x q t hp lo hx hq with ⟨e1, e2⟩ | ⟨-, e1, e2, e3, -⟩
  · rw [e1, e2]
    exact .inl ⟨rfl, rfl⟩
  · rw [e2, e3]
    rcases e1 with e1 | e1
    · rw [e1]
      have hk := keepL_ways (L := f.L) h8 (lo, t - lo, hp + 1)
      have e : ((moveF (f.at (hearS f.s r x q)) 1).keep t hp lo).L = keepL f.L (lo, t - lo, hp + 1) := rfl
      rw [e]
      rcases hk with hk | hk
      · refine .inr (.inr (.inl ⟨rfl, ?_⟩))
        rw [hk]
        split <;> omega
      · rw [hk]
        by_cases k : (1 : Int) = if 8 < (f.L.length : Int) + 1 then 8 else (f.L.length : Int) + 1
        · exact .inr (.inr (.inl ⟨rfl, k⟩))
        · exact .inr (.inr (.inr ⟨rfl, rfl, by simpa using k⟩))
    · rw [e1]
      exact .inr (.inl ⟨rfl, rfl⟩)
/-- What is told of oneself. -/
theorem own_ways {f : FS} (h : FInv f) {g hp v : Int} (ht : Tells f 0 g hp v) : ∃ N1 : Int, (f.L.length : Int) = N1 ∧ (minB f = true ∧ synB f = true ∧ N1 = 0 ∧ (v == 9) = false ∨ minB f = false ∧ synB f = true ∧ decide (f.need ≤ N1) = true ∧ (v == 9) = false ∨ minB f = false ∧ synB f = false ∧ decide (f.need ≤ N1) = false ∧ v = 9) := by
  refine ⟨_, rfl, ?_⟩
  have hv : synB f = true ∧ (v == 9) = false ∨ synB f = false ∧ v = 9 := by
    rcases ht with ⟨k, _, _, rfl⟩ | ⟨k, _, _, _, rfl⟩ | ⟨k, _, _, _, _, rfl⟩ | ⟨k, _, _, _, _, _, ⟨_, _, _, rfl⟩ | ⟨_, _, _, rfl⟩⟩
    · exact .inr ⟨k, rfl⟩
    · exact .inl ⟨k, by decide⟩
    · exact .inl ⟨k, by decide⟩
    · exact .inl ⟨k, by decide⟩
    · exact .inl ⟨k, by decide⟩
  cases hm : minB f with
  | true =>
    have hs := min_syn hm
    rcases hv with ⟨_, k⟩ | ⟨k, _⟩
    · exact .inl ⟨rfl, hs, by rw [h.own (of_decide_eq_true hm)]; rfl, k⟩
    · rw [hs] at k
      cases k
  | false =>
    have hd : synB f = decide (f.need ≤ (f.L.length : Int)) := by
      unfold synB
      have := of_decide_eq_false hm
      simp [this]
    rcases hv with ⟨k1, k2⟩ | ⟨k1, k2⟩
    · exact .inr (.inl ⟨rfl, k1, by rw [← hd]; exact k1, k2⟩)
    · exact .inr (.inr ⟨rfl, k1, by rw [← hd]; exact k1, k2⟩)
set_option linter.unusedSimpArgs false in
set_option maxHeartbeats 16000000 in
set_option maxRecDepth 100000 in
theorem walk (a0 : Int) (s1_0 s1_1 s1_2 s1_3 : Int) (A2 : Option Addr) (n2 c2 : Nat) (f2 : Nat → List Value) (w : World) (w0 : (Lit.int .i64 a0).wf = true) (w1_0 : (Lit.int .i64 s1_0).wf = true) (w1_1 : (Lit.int .i64 s1_1).wf = true) (w1_2 : (Lit.int .i64 s1_2).wf = true) (w1_3 : (Lit.int .i64 s1_3).wf = true) (w2 : FlatRow w [.int .i64, .int .i64, .int .i64, .int .i64, .int .i64, .int .i64, .int .u16, .int .u16, .int .i64, .int .i64, .int .i64, .int .i64, .int .i64, .int .i64, .int .i64, .int .i64] A2 n2 c2 f2) :
    Calls Try.prog 4 #[.int .i64 a0, .agg #[.int .i64 s1_0, .int .i64 s1_1, .int .i64 s1_2, .int .i64 s1_3], .slice A2 n2 c2] w fun e w' => e = .returned (.bool true) ∧ Below w.heap.size w w' := by
  have HB0 := Lib.hid (Box.start w 23 #[.int .i64 s1_0, .int .i64 s1_1, .int .i64 s1_2, .int .i64 s1_3])
  by_cases h300 : 200 < n2
  · have d3 : decide ((200 : Int) < (n2 : Int)) = true := decide_eq_true (by omega)
    go_enter Try.func4, Try.ntmps4
    go_wp2_with (go_at_call 7; refine (alive_yes _).mono ?_; rintro e w1 ⟨rfl, hb1⟩)
    go_ret
    exact ⟨rfl, (HB0.out.next hb1).below⟩
  have d3 : decide ((200 : Int) < (n2 : Int)) = false := decide_eq_false (by omega)
  have hcap := w2.cap_le
  have hmx := w2.max
  unfold maxLen at hmx
  have R := Lib.hid w2
  clear w2
  cases hgd : fgoodB a0 s1_0 s1_1 s1_2 s1_3 with
  | false =>
    have hnew := fun W => fnew_no W a0 s1_0 s1_1 s1_2 s1_3 hgd
    clear hgd
    go_enter Try.func4, Try.ntmps4
    go_wp2_with (first
      | (go_at_call 7; refine (alive_yes _).mono ?_; rintro e w1 ⟨rfl, hb1⟩; have HX1 := Lib.hid (HB0.out.next hb1); have x0 := HX1.out.holds.cell 0; have x1 := HX1.out.holds.cell 1; have x2 := HX1.out.holds.cell 2; have x3 := HX1.out.holds.cell 3; clear hb1)
      | (go_at_call 9; refine (lrules_any _ _ _ _ _).mono ?_; rintro e w2 ⟨rfl, hb2⟩; have HX2 := Lib.hid (HX1.out.next hb2); clear hb2)
      | (go_at_call 8; refine (hnew _).mono ?_; rintro e w3 ⟨rfl, hb3⟩; have HX3 := Lib.hid (HX2.out.next hb3); clear hb3))
    go_ret
    exact ⟨rfl, HX3.out.below⟩
  | true =>
    have hnew := fun W => fnew_yes W a0 s1_0 s1_1 s1_2 s1_3 hgd
    have HI0 := Lib.hid (FInv.new hgd (x := 0) ⟨by decide, by decide⟩)
    clear hgd
    go_enter Try.func4, Try.ntmps4
    go_wp2_with (first
      | (go_at_call 7; refine (alive_yes _).mono ?_; rintro e w1 ⟨rfl, hb1⟩; have HX1 := Lib.hid (HB0.out.next hb1); have x0 := HX1.out.holds.cell 0; have x1 := HX1.out.holds.cell 1; have x2 := HX1.out.holds.cell 2; have x3 := HX1.out.holds.cell 3; clear hb1)
      | (go_at_call 9; refine (lrules_any _ _ _ _ _).mono ?_; rintro e w2 ⟨rfl, hb2⟩; have HX2 := Lib.hid (HX1.out.next hb2); clear hb2 x0 x1 x2 x3)
      | (go_at_call 8; refine (hnew _).mono ?_; rintro e w3 ⟨gf, g, b, rfl, hF3, hb3⟩; have HL0 := Lib.hid (Lf.start HX2.out hF3 HI0.out hb3); clear hF3 hb3 hnew))
    go_loopw [35] (fun i wr => ∃ (k b n : Nat) (f : FS), k ≤ n2 ∧ i = .int .i64 k ∧ n ≤ k ∧ f.need = s1_2 ∧ Lf w wr 23 #[.int .i64 s1_0, .int .i64 s1_1, .int .i64 s1_2, .int .i64 s1_3] gf g b n f) (fun i _ => n2 - (intOf i).toNat)
    case atStart => exact ⟨0, b, 0, _, by omega, rfl, by omega, rfl, HL0.out⟩
    case round =>
      obtain ⟨k, b, n, f, hk, rfl, hn, hnd, hL⟩ := hrel
      have HL := Lib.hid hL
      clear hL HL0
      by_cases hlt : k < n2
      · skip
        obtain ⟨a, off, rfl, hb', hc⟩ := (R.out.below HL.out.law).at 16 rfl hlt
        obtain ⟨s0, s1, s2, s3, s4, s5, s6, s7, s8, s9, s10, s11, s12, s13, s14, s15, hf, hw0, hw1, hw2, hw3, hw4, hw5, hw6, hw7, hw8, hw9, hw10, hw11, hw12, hw13, hw14, hw15⟩ := cells2 (R.out.fit k hlt)
        have q0 : wr.cell? ⟨a, off + k * 16, none⟩ = some (.int .i64 s0) := hc 0 _ (by rw [hf]; rfl)
        have q1 : wr.cell? ⟨a, off + k * 16 + 1, none⟩ = some (.int .i64 s1) := hc 1 _ (by rw [hf]; rfl)
        have q2 : wr.cell? ⟨a, off + k * 16 + 2, none⟩ = some (.int .i64 s2) := hc 2 _ (by rw [hf]; rfl)
        have q3 : wr.cell? ⟨a, off + k * 16 + 3, none⟩ = some (.int .i64 s3) := hc 3 _ (by rw [hf]; rfl)
        have q4 : wr.cell? ⟨a, off + k * 16 + 4, none⟩ = some (.int .i64 s4) := hc 4 _ (by rw [hf]; rfl)
        have q5 : wr.cell? ⟨a, off + k * 16 + 5, none⟩ = some (.int .i64 s5) := hc 5 _ (by rw [hf]; rfl)
        have q6 : wr.cell? ⟨a, off + k * 16 + 6, none⟩ = some (.int .u16 s6) := hc 6 _ (by rw [hf]; rfl)
        have q7 : wr.cell? ⟨a, off + k * 16 + 7, none⟩ = some (.int .u16 s7) := hc 7 _ (by rw [hf]; rfl)
        have q8 : wr.cell? ⟨a, off + k * 16 + 8, none⟩ = some (.int .i64 s8) := hc 8 _ (by rw [hf]; rfl)
        have q9 : wr.cell? ⟨a, off + k * 16 + 9, none⟩ = some (.int .i64 s9) := hc 9 _ (by rw [hf]; rfl)
        have q10 : wr.cell? ⟨a, off + k * 16 + 10, none⟩ = some (.int .i64 s10) := hc 10 _ (by rw [hf]; rfl)
        have q11 : wr.cell? ⟨a, off + k * 16 + 11, none⟩ = some (.int .i64 s11) := hc 11 _ (by rw [hf]; rfl)
        have q12 : wr.cell? ⟨a, off + k * 16 + 12, none⟩ = some (.int .i64 s12) := hc 12 _ (by rw [hf]; rfl)
        have q13 : wr.cell? ⟨a, off + k * 16 + 13, none⟩ = some (.int .i64 s13) := hc 13 _ (by rw [hf]; rfl)
        have q14 : wr.cell? ⟨a, off + k * 16 + 14, none⟩ = some (.int .i64 s14) := hc 14 _ (by rw [hf]; rfl)
        have q15 : wr.cell? ⟨a, off + k * 16 + 15, none⟩ = some (.int .i64 s15) := hc 15 _ (by rw [hf]; rfl)
        have f6 := f16_wf hw6
        have f7 := f16_wf hw7
        have f5 := fits_wf hw5
        have fl := fits_wf hw1
        have ew := IntWalk.i64_in ((k : Int) + 1) (by omega)
        have HL1 := Lib.hid (HL.out.alloc (.cells #[.int .i64 s0, .int .i64 s1, .int .i64 s2, .int .i64 s3, .int .i64 s4, .int .i64 s5, .int .u16 s6, .int .u16 s7, .int .i64 s8, .int .i64 s9, .int .i64 s10, .int .i64 s11, .int .i64 s12, .int .i64 s13, .int .i64 s14, .int .i64 s15] 39))
        have HO := Lib.hid (Holds.new wr 39 #[.int .i64 s0, .int .i64 s1, .int .i64 s2, .int .i64 s3, .int .i64 s4, .int .i64 s5, .int .u16 s6, .int .u16 s7, .int .i64 s8, .int .i64 s9, .int .i64 s10, .int .i64 s11, .int .i64 s12, .int .i64 s13, .int .i64 s14, .int .i64 s15])
        clear hc hf hw0 hw1 hw2 hw3 hw4 hw5 hw6 hw7 hw8 hw9 hw10 hw11 hw12 hw13 hw14 hw15
        have hkind : (s0 = 0 ∨ s0 = 1 ∨ s0 = 2) ∨ (s0 = 3 ∨ s0 = 4) ∨ s0 = 6 ∨ ((s0 == 0) = false ∧ (s0 == 1) = false ∧ (s0 == 2) = false ∧ (s0 == 3) = false ∧ (s0 == 4) = false ∧ (s0 == 6) = false) := by
          by_cases k0 : s0 = 0 <;> by_cases k1 : s0 = 1 <;> by_cases k2 : s0 = 2 <;> by_cases k3 : s0 = 3 <;> by_cases k4 : s0 = 4 <;> by_cases k6 : s0 = 6 <;> simp_all
        have hen := entries_any _ _ _ _ _ _ _ HL1.out.fo
        have HIf := Lib.hid HL.out.inv
        obtain ⟨V, N0, N1, M, hV, hN0, hN1, n0, n8, hM, hways⟩ := hear_count HIf.out s5 s6 s7 s9 s8 s1 f6 f7
        rw [hN0] at hen
        have e8 := IntWalk.i64_in (N0 + 1) (by omega)
        have hmn : ∀ W : World, (Builtin.min_ #[3, 3] 3 #[.int .i64 (N0 + 1), .int .i64 8]).run Try.prog W = .ok (.int .i64 M) W := fun W => by rw [run_min3, hM]
        go_upto_block 2 with (go_at_call 15; refine hen.mono ?_; rintro e wx ⟨rfl, hwx⟩; subst wx)
        go_cut [12, 13, 35] from 35 to 147 (fun _ _ i wx => ∃ (bz nz : Nat) (F : FS), i = .int .i64 k ∧ nz ≤ k + 1 ∧ F.need = s1_2 ∧ Lf w wx 23 #[.int .i64 s1_0, .int .i64 s1_1, .int .i64 s1_2, .int .i64 s1_3] gf g bz nz F)
        case first =>
          rcases hkind with hkind | hkind | rfl | ⟨k0, k1, k2, k3, k4, k6⟩
          · have hhr := fun W (h : Lf w W 23 #[.int .i64 s1_0, .int .i64 s1_1, .int .i64 s1_2, .int .i64 s1_3] gf g b n f) => fhear_any W _ gf g b n f h.fo h.inv (by omega) s3 s5 s6 s7 s8 s9 s1 f5 f6 f7
            unfold FHeard at hhr
            have hIF := HIf.out.hear s5 s6 s7 s9 s8 s1 f6 f7
            have hnF : (hearFS f s5 s6 s7 s9 s8 s1).need = s1_2 := (hear_need _ _ _ _ _ _ _).trans hnd
            obtain ⟨F, hF⟩ : ∃ F, hearFS f s5 s6 s7 s9 s8 s1 = F := ⟨_, rfl⟩
            rw [hF] at hIF hN1 hnF
            simp only [hF, hV] at hhr
            have HHr := Lib.hid hhr
            have HIF := Lib.hid hIF
            have HNF := Lib.hid hnF
            have HEn := Lib.hid (fun W b n (h : Lf w W 23 #[.int .i64 s1_0, .int .i64 s1_1, .int .i64 s1_2, .int .i64 s1_3] gf g b n F) => entries_any _ _ _ _ _ _ _ h.fo)
            rw [hN1] at HEn
            have HLd := Lib.hid HL1.out.drew
            have HOd := Lib.hid (HO.out.drewN 1)
            have dn : (N0 != N0) = false := by simp
            have dm : (M != M) = false := by simp
            clear hV hN0 hN1 hM hF hhr hIF hnF
            rcases hkind with rfl | rfl | rfl <;>
            · as_aux_lemma =>
                go_upto_region 16 with fail
                refine region_turns (fun (w' : World) => w'.cell? ⟨wr.heap.size, 1, none⟩ = some (.int .i64 s1) ∧ w'.cell? ⟨wr.heap.size, 2, none⟩ = some (.int .i64 s2) ∧ w'.cell? ⟨wr.heap.size, 3, none⟩ = some (.int .i64 s3) ∧ w'.cell? ⟨wr.heap.size, 4, none⟩ = some (.int .i64 s4) ∧ w'.cell? ⟨wr.heap.size, 5, none⟩ = some (.int .i64 s5) ∧ w'.cell? ⟨wr.heap.size, 6, none⟩ = some (.int .u16 s6) ∧ w'.cell? ⟨wr.heap.size, 7, none⟩ = some (.int .u16 s7) ∧ w'.cell? ⟨wr.heap.size, 8, none⟩ = some (.int .i64 s8) ∧ w'.cell? ⟨wr.heap.size, 9, none⟩ = some (.int .i64 s9) ∧ w'.cell? ⟨wr.heap.size, 10, none⟩ = some (.int .i64 s10) ∧ w'.cell? ⟨wr.heap.size, 11, none⟩ = some (.int .i64 s11) ∧ w'.cell? ⟨wr.heap.size, 12, none⟩ = some (.int .i64 s12) ∧ w'.cell? ⟨wr.heap.size, 13, none⟩ = some (.int .i64 s13) ∧ w'.cell? ⟨wr.heap.size, 14, none⟩ = some (.int .i64 s14) ∧ w'.cell? ⟨wr.heap.size, 15, none⟩ = some (.int .i64 s15)) (fun j => decide (8 ≤ j)) (by kernel_rfl) (⟨HOd.out.cell 1, HOd.out.cell 2, HOd.out.cell 3, HOd.out.cell 4, HOd.out.cell 5, HOd.out.cell 6, HOd.out.cell 7, HOd.out.cell 8, HOd.out.cell 9, HOd.out.cell 10, HOd.out.cell 11, HOd.out.cell 12, HOd.out.cell 13, HOd.out.cell 14, HOd.out.cell 15⟩) (fun hS => ?_)
                refine Turns.take hS 0 _ rfl (by kernel_rfl) (by kernel_rfl) (by kernel_rfl) (by kernel_rfl) (fun _ _ _ h => h) (by rfl) (fun w' hS' => by (try dsimp only at hS'); go_split_ands; go_simp; (try with_reducible rfl)) ?_
                simp only [Act.put, List.getElem_toArray, List.getElem_cons_succ, List.getElem_cons_zero, List.setIfInBounds_toArray, List.set_cons_zero, List.set_cons_succ]
                refine Turns.take hS 1 _ rfl (by kernel_rfl) (by kernel_rfl) (by kernel_rfl) (by kernel_rfl) (fun _ _ _ h => h) (by rfl) (fun w' hS' => by (try dsimp only at hS'); go_split_ands; go_simp; (try with_reducible rfl)) ?_
                simp only [Act.put, List.getElem_toArray, List.getElem_cons_succ, List.getElem_cons_zero, List.setIfInBounds_toArray, List.set_cons_zero, List.set_cons_succ]
                refine Turns.take hS 2 _ rfl (by kernel_rfl) (by kernel_rfl) (by kernel_rfl) (by kernel_rfl) (fun _ _ _ h => h) (by rfl) (fun w' hS' => by (try dsimp only at hS'); go_split_ands; go_simp; (try with_reducible rfl)) ?_
                simp only [Act.put, List.getElem_toArray, List.getElem_cons_succ, List.getElem_cons_zero, List.setIfInBounds_toArray, List.set_cons_zero, List.set_cons_succ]
                refine Turns.take hS 4 _ rfl (by kernel_rfl) (by kernel_rfl) (by kernel_rfl) (by kernel_rfl) (fun _ _ _ h => h) (by rfl) (fun w' hS' => by (try dsimp only at hS'); go_split_ands; go_simp; (try with_reducible rfl)) ?_
                simp only [Act.put, List.getElem_toArray, List.getElem_cons_succ, List.getElem_cons_zero, List.setIfInBounds_toArray, List.set_cons_zero, List.set_cons_succ]
                refine Turns.take hS 5 _ rfl (by kernel_rfl) (by kernel_rfl) (by kernel_rfl) (by kernel_rfl) (fun _ _ _ h => h) (by rfl) (fun w' hS' => by (try dsimp only at hS'); go_split_ands; go_simp; (try with_reducible rfl)) ?_
                simp only [Act.put, List.getElem_toArray, List.getElem_cons_succ, List.getElem_cons_zero, List.setIfInBounds_toArray, List.set_cons_zero, List.set_cons_succ]
                refine Turns.next 3 rfl (by kernel_rfl) (by rfl) (fun K hK => ?_)
                go_simp
                go_at_call 11
                refine (lsync_any _ _ _ _ _ _ _ _ _ _ _ _ _ _ _).mono ?_
                rintro e w3 ⟨rfl, hb3⟩
                have HL3 := Lib.hid (HLd.out.below hb3)
                have HO3 := Lib.hid (HOd.out.below hb3 HOd.out.lt)
                clear hb3
                refine hK.out _ _ (show (fun (w' : World) => w'.cell? ⟨wr.heap.size, 1, none⟩ = some (.int .i64 s1) ∧ w'.cell? ⟨wr.heap.size, 2, none⟩ = some (.int .i64 s2) ∧ w'.cell? ⟨wr.heap.size, 3, none⟩ = some (.int .i64 s3) ∧ w'.cell? ⟨wr.heap.size, 4, none⟩ = some (.int .i64 s4) ∧ w'.cell? ⟨wr.heap.size, 5, none⟩ = some (.int .i64 s5) ∧ w'.cell? ⟨wr.heap.size, 6, none⟩ = some (.int .u16 s6) ∧ w'.cell? ⟨wr.heap.size, 7, none⟩ = some (.int .u16 s7) ∧ w'.cell? ⟨wr.heap.size, 8, none⟩ = some (.int .i64 s8) ∧ w'.cell? ⟨wr.heap.size, 9, none⟩ = some (.int .i64 s9) ∧ w'.cell? ⟨wr.heap.size, 10, none⟩ = some (.int .i64 s10) ∧ w'.cell? ⟨wr.heap.size, 11, none⟩ = some (.int .i64 s11) ∧ w'.cell? ⟨wr.heap.size, 12, none⟩ = some (.int .i64 s12) ∧ w'.cell? ⟨wr.heap.size, 13, none⟩ = some (.int .i64 s13) ∧ w'.cell? ⟨wr.heap.size, 14, none⟩ = some (.int .i64 s14) ∧ w'.cell? ⟨wr.heap.size, 15, none⟩ = some (.int .i64 s15)) _ from ⟨HO3.out.cell 1, HO3.out.cell 2, HO3.out.cell 3, HO3.out.cell 4, HO3.out.cell 5, HO3.out.cell 6, HO3.out.cell 7, HO3.out.cell 8, HO3.out.cell 9, HO3.out.cell 10, HO3.out.cell 11, HO3.out.cell 12, HO3.out.cell 13, HO3.out.cell 14, HO3.out.cell 15⟩) ?_
                clear hK K hS
                have hS := (show (fun (w' : World) => w'.cell? ⟨wr.heap.size, 1, none⟩ = some (.int .i64 s1) ∧ w'.cell? ⟨wr.heap.size, 2, none⟩ = some (.int .i64 s2) ∧ w'.cell? ⟨wr.heap.size, 3, none⟩ = some (.int .i64 s3) ∧ w'.cell? ⟨wr.heap.size, 4, none⟩ = some (.int .i64 s4) ∧ w'.cell? ⟨wr.heap.size, 5, none⟩ = some (.int .i64 s5) ∧ w'.cell? ⟨wr.heap.size, 6, none⟩ = some (.int .u16 s6) ∧ w'.cell? ⟨wr.heap.size, 7, none⟩ = some (.int .u16 s7) ∧ w'.cell? ⟨wr.heap.size, 8, none⟩ = some (.int .i64 s8) ∧ w'.cell? ⟨wr.heap.size, 9, none⟩ = some (.int .i64 s9) ∧ w'.cell? ⟨wr.heap.size, 10, none⟩ = some (.int .i64 s10) ∧ w'.cell? ⟨wr.heap.size, 11, none⟩ = some (.int .i64 s11) ∧ w'.cell? ⟨wr.heap.size, 12, none⟩ = some (.int .i64 s12) ∧ w'.cell? ⟨wr.heap.size, 13, none⟩ = some (.int .i64 s13) ∧ w'.cell? ⟨wr.heap.size, 14, none⟩ = some (.int .i64 s14) ∧ w'.cell? ⟨wr.heap.size, 15, none⟩ = some (.int .i64 s15)) _ from ⟨HO3.out.cell 1, HO3.out.cell 2, HO3.out.cell 3, HO3.out.cell 4, HO3.out.cell 5, HO3.out.cell 6, HO3.out.cell 7, HO3.out.cell 8, HO3.out.cell 9, HO3.out.cell 10, HO3.out.cell 11, HO3.out.cell 12, HO3.out.cell 13, HO3.out.cell 14, HO3.out.cell 15⟩)
                refine Turns.next 6 rfl (by kernel_rfl) (by rfl) (fun K hK => ?_)
                go_simp
                go_at_call 10
                refine (HHr.out _ HL3.out).mono ?_
                rintro e w4 ⟨rfl, hg4⟩
                obtain ⟨b4, hL4, hc4⟩ := HL3.out.step hg4 HIF.out
                have HO4 := Lib.hid (HL3.out.other HO3.out (by constructor <;> decide) hc4)
                have HL4 := Lib.hid hL4
                clear hg4 hL4 hc4
                refine hK.out _ _ (show (fun (w' : World) => w'.cell? ⟨wr.heap.size, 1, none⟩ = some (.int .i64 s1) ∧ w'.cell? ⟨wr.heap.size, 2, none⟩ = some (.int .i64 s2) ∧ w'.cell? ⟨wr.heap.size, 3, none⟩ = some (.int .i64 s3) ∧ w'.cell? ⟨wr.heap.size, 4, none⟩ = some (.int .i64 s4) ∧ w'.cell? ⟨wr.heap.size, 5, none⟩ = some (.int .i64 s5) ∧ w'.cell? ⟨wr.heap.size, 6, none⟩ = some (.int .u16 s6) ∧ w'.cell? ⟨wr.heap.size, 7, none⟩ = some (.int .u16 s7) ∧ w'.cell? ⟨wr.heap.size, 8, none⟩ = some (.int .i64 s8) ∧ w'.cell? ⟨wr.heap.size, 9, none⟩ = some (.int .i64 s9) ∧ w'.cell? ⟨wr.heap.size, 10, none⟩ = some (.int .i64 s10) ∧ w'.cell? ⟨wr.heap.size, 11, none⟩ = some (.int .i64 s11) ∧ w'.cell? ⟨wr.heap.size, 12, none⟩ = some (.int .i64 s12) ∧ w'.cell? ⟨wr.heap.size, 13, none⟩ = some (.int .i64 s13) ∧ w'.cell? ⟨wr.heap.size, 14, none⟩ = some (.int .i64 s14) ∧ w'.cell? ⟨wr.heap.size, 15, none⟩ = some (.int .i64 s15)) _ from ⟨HO4.out.cell 1, HO4.out.cell 2, HO4.out.cell 3, HO4.out.cell 4, HO4.out.cell 5, HO4.out.cell 6, HO4.out.cell 7, HO4.out.cell 8, HO4.out.cell 9, HO4.out.cell 10, HO4.out.cell 11, HO4.out.cell 12, HO4.out.cell 13, HO4.out.cell 14, HO4.out.cell 15⟩) ?_
                clear hK K hS
                have hS := (show (fun (w' : World) => w'.cell? ⟨wr.heap.size, 1, none⟩ = some (.int .i64 s1) ∧ w'.cell? ⟨wr.heap.size, 2, none⟩ = some (.int .i64 s2) ∧ w'.cell? ⟨wr.heap.size, 3, none⟩ = some (.int .i64 s3) ∧ w'.cell? ⟨wr.heap.size, 4, none⟩ = some (.int .i64 s4) ∧ w'.cell? ⟨wr.heap.size, 5, none⟩ = some (.int .i64 s5) ∧ w'.cell? ⟨wr.heap.size, 6, none⟩ = some (.int .u16 s6) ∧ w'.cell? ⟨wr.heap.size, 7, none⟩ = some (.int .u16 s7) ∧ w'.cell? ⟨wr.heap.size, 8, none⟩ = some (.int .i64 s8) ∧ w'.cell? ⟨wr.heap.size, 9, none⟩ = some (.int .i64 s9) ∧ w'.cell? ⟨wr.heap.size, 10, none⟩ = some (.int .i64 s10) ∧ w'.cell? ⟨wr.heap.size, 11, none⟩ = some (.int .i64 s11) ∧ w'.cell? ⟨wr.heap.size, 12, none⟩ = some (.int .i64 s12) ∧ w'.cell? ⟨wr.heap.size, 13, none⟩ = some (.int .i64 s13) ∧ w'.cell? ⟨wr.heap.size, 14, none⟩ = some (.int .i64 s14) ∧ w'.cell? ⟨wr.heap.size, 15, none⟩ = some (.int .i64 s15)) _ from ⟨HO4.out.cell 1, HO4.out.cell 2, HO4.out.cell 3, HO4.out.cell 4, HO4.out.cell 5, HO4.out.cell 6, HO4.out.cell 7, HO4.out.cell 8, HO4.out.cell 9, HO4.out.cell 10, HO4.out.cell 11, HO4.out.cell 12, HO4.out.cell 13, HO4.out.cell 14, HO4.out.cell 15⟩)
                refine Turns.take hS 7 _ rfl (by kernel_rfl) (by kernel_rfl) (by kernel_rfl) (by kernel_rfl) (fun _ _ _ h => h) (by rfl) (fun w' hS' => by (try dsimp only at hS'); go_split_ands; go_simp; (try with_reducible rfl)) ?_
                simp only [Act.put, List.getElem_toArray, List.getElem_cons_succ, List.getElem_cons_zero, List.setIfInBounds_toArray, List.set_cons_zero, List.set_cons_succ]
                refine Turns.rest (late_done (by kernel_rfl)) ?_
                refine any_tail 8 (by rfl) (by kernel_rfl) ?_
                simp only [List.drop_succ_cons, List.drop_zero]
                clear hS
                have hen4 := HEn.out _ _ _ HL4.out
                rcases hways with ⟨rfl, rfl⟩ | ⟨rfl, rfl⟩ | ⟨rfl, rfl⟩ | ⟨rfl, rfl, dx⟩ <;>
                · go_wp2_with (go_at_call 15; refine hen4.mono ?_; rintro e wx ⟨rfl, hwx⟩; subst wx)
                  go_meet
                  case rel => exact ⟨b4, n + 1, F, rfl, by omega, HNF.out, HL4.out⟩
          · obtain ⟨W, ok, F, hs⟩ := says_is (beatF f) s1
            have hbt := fbeat_any _ _ gf g b n f HL1.out.fo HIf.out s1 fl W ok F hs
            have HIF := Lib.hid (HIf.out.beat.says hs)
            have HNF : Hid (F.need = s1_2) := Lib.hid ((says_need hs).trans ((beat_need f).trans hnd))
            have o1 := HO.out.cell 1
            clear hs hV hN0 hN1 hM hways
            rcases hkind with rfl | rfl <;>
            · as_aux_lemma =>
                go_wp2_with (go_at_call 13; refine hbt.mono ?_; rintro e w4 ⟨rfl, hg4⟩; obtain ⟨b4, hL4, -⟩ := HL1.out.step hg4 HIF.out; have HL4 := Lib.hid hL4; clear hg4 hL4)
                go_meet
                case rel => exact ⟨b4, n, F, rfl, by omega, HNF.out, HL4.out⟩
          · have hbo := fboot_any _ _ gf g b n f HL1.out.fo s6 f6
            have HIF := Lib.hid (HIf.out.boot f6)
            have HNF : Hid ((bootF f s6).need = s1_2) := Lib.hid hnd
            have hz : (bootF f s6).L = [] := rfl
            have hsy : synB (bootF f s6) = false := by
              refine decide_eq_false (fun e => ?_)
              have := HIf.out.s.me
              have := HIf.out.need
              rcases e with e | e
              · have e' : (-1 : Int) = f.s.me := e
                omega
              · have e' : f.need ≤ (0 : Int) := e
                omega
            obtain ⟨F, hF⟩ : ∃ F, bootF f s6 = F := ⟨_, rfl⟩
            rw [hF] at hbo HIF HNF hz hsy
            have HEn := Lib.hid (fun W b n (h : Lf w W 23 #[.int .i64 s1_0, .int .i64 s1_1, .int .i64 s1_2, .int .i64 s1_3] gf g b n F) => entries_any _ _ _ _ _ _ _ h.fo)
            rw [hz] at HEn
            have HSy := Lib.hid (fun W b n (h : Lf w W 23 #[.int .i64 s1_0, .int .i64 s1_1, .int .i64 s1_2, .int .i64 s1_3] gf g b n F) => synced_any _ _ _ _ _ _ _ h.fo)
            rw [hsy] at HSy
            clear hV hN0 hN1 hM hways hz hsy hF
            go_wp2_with (first
              | (go_at_call 16; refine hbo.mono ?_; rintro e w4 ⟨rfl, hg4⟩; obtain ⟨b4, hL4, -⟩ := HL1.out.step hg4 HIF.out; have HL4 := Lib.hid hL4; have hen4 := HEn.out _ _ _ hL4; have hsy4 := HSy.out _ _ _ hL4; clear hg4 hL4)
              | (go_at_call 15; refine hen4.mono ?_; rintro e wx ⟨rfl, hwx⟩; subst wx)
              | (go_at_call 17; refine hsy4.mono ?_; rintro e wx ⟨rfl, nq, rfl⟩))
            go_meet
            case rel => exact ⟨b4, 0, F, rfl, by omega, HNF.out, HL4.out.drewN _⟩
          · go_wp2
            go_meet
            case rel => exact ⟨b, n, f, rfl, by omega, hnd, HL1.out⟩
        case rest =>
          obtain ⟨bz, nz, F, rfl, hnz, hnF, hLz⟩ := hcut
          have HLz := Lib.hid hLz
          obtain ⟨tg, th, tv, ht⟩ := tells_is F 0
          have htm := ftell_any _ _ _ _ _ _ _ hLz.fo hLz.inv 0 tg th tv ht
          obtain ⟨N2, hN2, hw⟩ := own_ways hLz.inv ht
          rw [hnF] at hw
          have HSy := Lib.hid (fun W (h : Lf w W 23 #[.int .i64 s1_0, .int .i64 s1_1, .int .i64 s1_2, .int .i64 s1_3] gf g bz nz F) => synced_any _ _ _ _ _ _ _ h.fo)
          have HEn := Lib.hid (fun W (h : Lf w W 23 #[.int .i64 s1_0, .int .i64 s1_1, .int .i64 s1_2, .int .i64 s1_3] gf g bz nz F) => entries_any _ _ _ _ _ _ _ h.fo)
          have HMi := Lib.hid (fun W (h : Lf w W 23 #[.int .i64 s1_0, .int .i64 s1_1, .int .i64 s1_2, .int .i64 s1_3] gf g bz nz F) => mine_at h.fo.node (v := minB F) rfl)
          have HCe := Lib.hid (fun W (h : Lf w W 23 #[.int .i64 s1_0, .int .i64 s1_1, .int .i64 s1_2, .int .i64 s1_3] gf g bz nz F) => h.fo.cells.1)
          have HCb := Lib.hid (fun W (h : Lf w W 23 #[.int .i64 s1_0, .int .i64 s1_1, .int .i64 s1_2, .int .i64 s1_3] gf g bz nz F) => h.box.holds.cell 2)
          rw [hN2] at HEn
          have hNF := hnF
          clear hLz ht hN2 hnF hways hkind hV hN0 hN1 hM HL1 HO hen
          go_upto_region 28 with (go_at_call 18; refine htm.mono ?_; rintro e w7 ⟨rfl, hb7⟩; have HL7 := Lib.hid (HLz.out.below hb7); clear hb7)
          have k0 := HCe.out _ HL7.out
          have k2 := HCb.out _ HL7.out
          have hSy := fun m => HSy.out _ (HL7.out.drewN m)
          have hEn := fun m => HEn.out _ (HL7.out.drewN m)
          have hMi := fun m => HMi.out _ (HL7.out.drewN m)
          obtain ⟨Y, hY⟩ : ∃ Y, synB F = Y := ⟨_, rfl⟩
          obtain ⟨X, hX⟩ : ∃ X, minB F = X := ⟨_, rfl⟩
          simp only [hY] at hSy hw
          simp only [hX] at hMi hw
          clear hY hX
          rcases hw with ⟨rfl, rfl, rfl, d9⟩ | ⟨rfl, rfl, dd, d9⟩ | ⟨rfl, rfl, dd, rfl⟩ <;>
          · as_aux_lemma =>
              go_quiet (first
                | (go_at_call 17; refine (hSy _).mono ?_; rintro e wx ⟨rfl, nq, rfl⟩; first | exact ⟨rfl, _, rfl⟩ | exact ⟨rfl, _, fdrew_two _ _ _⟩ | exact ⟨rfl, _, fdrew_drew _ _ _ _⟩)
                | (go_at_call 14; refine (hMi _).mono ?_; rintro e wx ⟨rfl, nq, rfl⟩; first | exact ⟨rfl, _, rfl⟩ | exact ⟨rfl, _, fdrew_two _ _ _⟩ | exact ⟨rfl, _, fdrew_drew _ _ _ _⟩)
                | (go_at_call 15; refine (hEn _).mono ?_; rintro e wx ⟨rfl, rfl⟩; exact ⟨rfl, _, rfl⟩))
              go_wp2
              go_roundw
              case rel => exact ⟨k + 1, bz, nz, F, by omega, by go_num, hnz, hNF, HL7.out.drewN _⟩
              case measure => simp [intOf]; omega
      · obtain rfl : k = n2 := by omega
        go_wp2
        go_ret
        exact ⟨rfl, HL.out.law⟩

set_option maxRecDepth 100000 in
theorem lifted (os : Os) (started : os.Started) (H : Type) (enc : TypeId × Value → H) :
    ReturnsInHanded {} Try.checked os 4 .any (Rows.floodKnowsSpec.pre6 enc Try.prog Try.f4 Rows.floodKnowsRow.domain false) (Rows.floodKnowsSpec.post enc Try.prog Try.f4 false true false false) := by
  refine returnsInHanded_of_change (C := Try.checked) own started (by kernel_rfl) Try.func4
    (ChangeSpec.witness6 (enc := enc) (C := Try.checked) false ⟨#[], #[.int .i64 0, .agg #[.int .i64 0, .int .i64 0, .int .i64 0, .int .i64 0], .slice none 0 0], []⟩ 8 (by kernel_rfl) (by kernel_rfl) (by kernel_rfl) (by kernel_rfl)) ?_
  intro W base args ds gs before hval0 hW hcnd _
  have hval : ∀ (j : Nat) t v, Try.f4.params[j]? = some t → args[j]? = some v → Value.okWide Try.prog W .any base t v := hval0
  have hW' := hW
  obtain ⟨p, q, hA0, hV, rfl, hfz, hnd⟩ := hW
  have hA : DataW.TrodAll enc Try.prog W 0 (fun _ => true) true Try.f4.params.toList args.toList ds p := hA0
  have hAk := hA
  rw [Try.params4] at hA hval
  obtain ⟨v0, vs0, d0, ds0, p0, q0, hargs, rfl, hp, h0, r0⟩ := trodAll_cons hA
  obtain ⟨v1, vs1, d1, ds1, p1, q1, rfl, rfl, rfl, h1, r1⟩ := trodAll_cons r0
  obtain ⟨v2, vs2, d2, ds2, p2, q2, rfl, rfl, rfl, h2, r2⟩ := trodAll_cons r1
  obtain ⟨rfl, rfl, rfl⟩ := trodAll_nil r2
  obtain rfl : args = #[v0, v1, v2] := by cases args; simp_all
  obtain ⟨rfl, rfl⟩ := trodVars_none hV
  clear hA0 hval0 hargs
  simp only [List.append_nil] at hW'
  have hend : ∀ W' : World, Below W.heap.size W W' → Rows.floodKnowsSpec.post enc Try.prog Try.f4 false true false false W #[v0, v1, v2] (.bool true) W' := fun W' hb =>
    law_post (tb := 4) hW' hAk rfl (by kernel_rfl) (by kernel_rfl) (by kernel_rfl) Try.underlying4 rfl rfl rfl hb
  clear hW' hAk hp
  obtain ⟨a0, rfl, rfl, rfl, w0⟩ := open_int Try.underlying3 (hval 0 3 v0 rfl rfl) h0
  obtain ⟨ns1, rfl, hl1, hw1⟩ := ints_struct (ks := [.i64, .i64, .i64, .i64]) Try.underlying23 (by kernel_rfl) (by kernel_rfl) (by kernel_rfl) (hval 1 23 v1 rfl rfl) h1
  obtain ⟨s1_0, s1_1, s1_2, s1_3, rfl⟩ := split4 hl1
  clear hl1
  obtain ⟨A2, n2, c2, f2, rfl, w2⟩ := flats_arg (ks := [.int .i64, .int .i64, .int .i64, .int .i64, .int .i64, .int .i64, .int .u16, .int .u16, .int .i64, .int .i64, .int .i64, .int .i64, .int .i64, .int .i64, .int .i64, .int .i64]) 9 Try.underlying24 (by kernel_rfl) (by kernel_rfl) (by decide) (hval 2 24 v2 rfl rfl) h2
  refine (walk a0 s1_0 s1_1 s1_2 s1_3 A2 n2 c2 f2 W w0 (hw1 0 _ _ rfl rfl) (hw1 1 _ _ rfl rfl) (hw1 2 _ _ rfl rfl) (hw1 3 _ _ rfl rfl) w2).mono fun e W' ⟨he, hg⟩ => ?_
  subst he
  exact ⟨_, rfl, hend W' hg⟩

theorem over : Rows.floodKnowsRow.holds Try.pinned (OpenSpec.ofChange Rows.floodKnowsSpec) :=
  OpenClaim.holds_of_wide 4 Try.f4 rfl rfl rfl rfl rfl rfl rfl ⟨rfl, rfl, rfl, rfl, rfl⟩ rfl rfl rfl rfl rfl (by kernel_rfl) Try.func4 (by kernel_rfl)
    (of_decide_eq_true (by kernel_rfl)) (by unfold Func.isWrapper; first | (rw [if_pos (by decide +kernel)]; kernel_rfl) | (rw [if_neg (by decide +kernel)]; exact ⟨rfl, rfl⟩))
    (fun os started H enc _ => lifted os started H enc)

/-- THE STATEMENT -/
theorem proved : Rows.FloodKnowsSaid :=
  over
#print axioms proved
end Go.Proofs.Ytdnmgpendacjoaa.floodKnows
