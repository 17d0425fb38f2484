/-
  Words of a node's root, once taken, are said with the same mark and with one hop more.
  The walk is the prover's own; the frame of the row's step follows the kit's template.
-/
import Derived.Test.YtdnmgpendacjoaaRows
import Derived.Test.YtdnmgpendacjoaaGrpFl1
import Derived.Test.YtdnmgpendacjoaaGrpFloodSays4
import Derived.Test.YtdnmgpendacjoaaGrpFl3
import Derived.Deep.QuietTactic
import Derived.BigQuiet
namespace Go.Proofs.Ytdnmgpendacjoaa.floodSays
open Go.ChangeShapes Go.WideShapes Go.ChangeAt Go.RowKit Go.ChangeMaps Go.WideElems
set_option linter.unusedVariables false

theorem split4 {ns : List Int} (h : ns.length = 4) : ∃ s1_0 s1_1 s1_2 s1_3 : Int, ns = [s1_0, s1_1, s1_2, s1_3] := by
  match ns, h with
  | [y0, y1, y2, y3], _ => exact ⟨_, _, _, _, rfl⟩
theorem cells2 {W : World} {vs : List Value} (h : Fit W [.int .i64, .int .i64, .int .i64, .int .i64, .int .i64, .int .i64, .int .u16, .int .u16, .int .i64, .int .i64, .int .i64, .int .i64, .int .i64, .int .i64, .int .i64, .int .i64] vs) : ∃ (s0 : Int) (s1 : Int) (s2 : Int) (s3 : Int) (s4 : Int) (s5 : Int) (s6 : Int) (s7 : Int) (s8 : Int) (s9 : Int) (s10 : Int) (s11 : Int) (s12 : Int) (s13 : Int) (s14 : Int) (s15 : Int), vs = [.int .i64 s0, .int .i64 s1, .int .i64 s2, .int .i64 s3, .int .i64 s4, .int .i64 s5, .int .u16 s6, .int .u16 s7, .int .i64 s8, .int .i64 s9, .int .i64 s10, .int .i64 s11, .int .i64 s12, .int .i64 s13, .int .i64 s14, .int .i64 s15] ∧ (Lit.int .i64 s0).wf = true ∧ (Lit.int .i64 s1).wf = true ∧ (Lit.int .i64 s2).wf = true ∧ (Lit.int .i64 s3).wf = true ∧ (Lit.int .i64 s4).wf = true ∧ (Lit.int .i64 s5).wf = true ∧ (Lit.int .u16 s6).wf = true ∧ (Lit.int .u16 s7).wf = true ∧ (Lit.int .i64 s8).wf = true ∧ (Lit.int .i64 s9).wf = true ∧ (Lit.int .i64 s10).wf = true ∧ (Lit.int .i64 s11).wf = true ∧ (Lit.int .i64 s12).wf = true ∧ (Lit.int .i64 s13).wf = true ∧ (Lit.int .i64 s14).wf = true ∧ (Lit.int .i64 s15).wf = true := by
  match vs, h.length, h with
  | [y0, y1, y2, y3, y4, y5, y6, y7, y8, y9, y10, y11, y12, y13, y14, y15], _, h =>
    obtain ⟨⟨x0, rfl, h0⟩, ⟨x1, rfl, h1⟩, ⟨x2, rfl, h2⟩, ⟨x3, rfl, h3⟩, ⟨x4, rfl, h4⟩, ⟨x5, rfl, h5⟩, ⟨x6, rfl, h6⟩, ⟨x7, rfl, h7⟩, ⟨x8, rfl, h8⟩, ⟨x9, rfl, h9⟩, ⟨x10, rfl, h10⟩, ⟨x11, rfl, h11⟩, ⟨x12, rfl, h12⟩, ⟨x13, rfl, h13⟩, ⟨x14, rfl, h14⟩, ⟨x15, rfl, h15⟩, _⟩ := h
    exact ⟨x0, x1, x2, x3, x4, x5, x6, x7, x8, x9, x10, x11, x12, x13, x14, x15, rfl, h0, h1, h2, h3, h4, h5, h6, h7, h8, h9, h10, h11, h12, h13, h14, h15⟩
theorem own : ownKnob Try.prog.godebug = none := by kernel_rfl
/-- What a node says is what it took last. -/
def SayI (f : FS) (p3 p4 p5 p6 p7 A : Int) : Prop := 0 ≤ f.s.root → f.s.root ≠ f.s.me → p3 = f.s.root ∧ saidV f.s = (p4, p5) ∧ f.ph = p6 + 1 ∧ f.pg = p7 ∧ f.pl = A
theorem said_beat {s : St} (h : beatB s = false) (hr : s.root ≠ s.me) : saidV (beatS s) = saidV s := by
  have h' := of_decide_eq_false h
  unfold beatS
  rw [if_neg hr, if_pos (by omega)]
  rfl
theorem say_beat {f : FS} {p3 p4 p5 p6 p7 A : Int} (h : SayI f p3 p4 p5 p6 p7 A) : SayI (beatF f) p3 p4 p5 p6 p7 A := by
  unfold beatF
  cases hb : beatB f.s with
  | true =>
    intro _ k2
    obtain ⟨e1, e2⟩ := beat_mine hb
    have k2' : (beatS f.s).root ≠ (beatS f.s).me := k2
    rw [e1, e2] at k2'
    exact absurd rfl k2'
  | false =>
    intro k1 k2
    obtain ⟨e1, e2⟩ := beat_root hb
    have k1' : 0 ≤ (beatS f.s).root := k1
    have k2' : (beatS f.s).root ≠ (beatS f.s).me := k2
    rw [e1] at k1' k2'
    rw [e2] at k2'
    obtain ⟨h1, h2, h3⟩ := h k1' k2'
    exact ⟨h1.trans e1.symm, (said_beat hb k2').trans h2, h3⟩
theorem say_hear {f : FS} (hI : FInv f) (r x q t hp lo : Int) (hx : F16 x) (hq : F16 q) : (hearFV f r x q t hp lo = 0 ∧ hearFS f r x q t hp lo = f) ∨ ((hearFV f r x q t hp lo != 0) = true ∧ SayI (hearFS f r x q t hp lo) r x q hp t lo) := by
  rcases hearF_ways hI r x q t hp lo hx hq with h | ⟨-, e1, e2, e3, e4, e5, e6⟩
  · exact .inl h
  · refine .inr ⟨by rw [e2]; rcases e1 with e1 | e1 <;> rw [e1] <;> rfl, ?_⟩
    rw [e3]
    obtain ⟨k1, k2, k3⟩ := hear_took e4
    have key : ∀ g : FS, SayI ((g.at (hearS f.s r x q)).keep t hp lo) r x q hp t lo := fun g _ _ => by
      refine ⟨k1.symm, ?_, rfl, rfl, rfl⟩
      show saidV (hearS f.s r x q) = (x, q)
      unfold saidV
      rw [if_neg (by omega), if_neg (by omega), k1, k3]
      rfl
    unfold moveF
    split
    · exact key f.clear
    · exact key f
theorem say_new (me tmo ign need drift x : Int) {p3 p4 p5 p6 p7 A : Int} : SayI (newF me tmo ign need drift x) p3 p4 p5 p6 p7 A := fun (k : (0 : Int) ≤ -1) => absurd k (by decide)
theorem hear_me (f : FS) (r x q t hp lo : Int) : (hearFS f r x q t hp lo).s.me = f.s.me := by
  unfold hearFS moveF
  split
  · rfl
  · split <;> exact hear_keeps f.s r x q
theorem beat_me (f : FS) : (beatF f).s.me = f.s.me := by unfold beatF; split <;> exact beat_keeps f.s
theorem pass_root {f : FS} (hm : minB (beatF f) = false) : (beatF f).s.root = f.s.root := by
  unfold beatF at hm ⊢
  cases hb : beatB f.s with
  | true =>
    rw [hb] at hm
    obtain ⟨e1, e2⟩ := beat_mine hb
    exact absurd (e1.trans e2.symm) (of_decide_eq_false hm)
  | false => exact (beat_root hb).1
theorem plain_size' : (Try.prog.info? 37).map (·.size) = some 14 := by kernel_rfl
theorem row_one (C : List Value) (h : C.all (fun v => v.oneCell') = true) : ∀ v ∈ C, v.oneCell' = true := fun v hv => List.all_eq_true.1 h v hv
theorem row_put {wr : World} {g : Nat} {t : TypeId} {C D : List Value} (h : Holds wr g t C.toArray) (hl : D.length = C.length) : Holds (wr.setRow g (splice C 0 D).toArray) g t D.toArray := by
  rw [splice_all C D hl]
  exact h.row _
set_option linter.unusedSimpArgs false in
set_option maxHeartbeats 16000000 in
set_option maxRecDepth 100000 in
theorem walk (a0 : Int) (s1_0 s1_1 s1_2 s1_3 : Int) (A2 : Option Addr) (n2 c2 : Nat) (f2 : Nat → List Value) (w : World) (w0 : (Lit.int .i64 a0).wf = true) (w1_0 : (Lit.int .i64 s1_0).wf = true) (w1_1 : (Lit.int .i64 s1_1).wf = true) (w1_2 : (Lit.int .i64 s1_2).wf = true) (w1_3 : (Lit.int .i64 s1_3).wf = true) (w2 : FlatRow w [.int .i64, .int .i64, .int .i64, .int .i64, .int .i64, .int .i64, .int .u16, .int .u16, .int .i64, .int .i64, .int .i64, .int .i64, .int .i64, .int .i64, .int .i64, .int .i64] A2 n2 c2 f2) :
    Calls Try.prog 3 #[.int .i64 a0, .agg #[.int .i64 s1_0, .int .i64 s1_1, .int .i64 s1_2, .int .i64 s1_3], .slice A2 n2 c2] w fun e w' => e = .returned (.bool true) ∧ Below w.heap.size w w' := by
  have HB0 := Lib.hid (Box.start w 23 #[.int .i64 s1_0, .int .i64 s1_1, .int .i64 s1_2, .int .i64 s1_3])
  by_cases h300 : 200 < n2
  · have d3 : decide ((200 : Int) < (n2 : Int)) = true := decide_eq_true (by omega)
    go_enter Try.func3, Try.ntmps3
    go_wp2_with (go_at_call 7; refine (alive_yes _).mono ?_; rintro e w1 ⟨rfl, hb1⟩)
    go_ret
    exact ⟨rfl, (HB0.out.next hb1).below⟩
  have d3 : decide ((200 : Int) < (n2 : Int)) = false := decide_eq_false (by omega)
  have hcap := w2.cap_le
  have hmx := w2.max
  unfold maxLen at hmx
  have R := Lib.hid w2
  clear w2
  cases hgd : fgoodB a0 s1_0 s1_1 s1_2 s1_3 with
  | false =>
    have hnew := fun W => fnew_no W a0 s1_0 s1_1 s1_2 s1_3 hgd
    clear hgd
    go_enter Try.func3, Try.ntmps3
    go_wp2_with (first
      | (go_at_call 7; refine (alive_yes _).mono ?_; rintro e w1 ⟨rfl, hb1⟩; have HX1 := Lib.hid (HB0.out.next hb1); have x0 := HX1.out.holds.cell 0; have x1 := HX1.out.holds.cell 1; have x2 := HX1.out.holds.cell 2; have x3 := HX1.out.holds.cell 3; clear hb1)
      | (go_at_call 9; refine (lrules_any _ _ _ _ _).mono ?_; rintro e w2 ⟨rfl, hb2⟩; have HX2 := Lib.hid (HX1.out.next hb2); clear hb2)
      | (go_at_call 8; refine (hnew _).mono ?_; rintro e w3 ⟨rfl, hb3⟩; have HX3 := Lib.hid (HX2.out.next hb3); clear hb3))
    go_ret
    exact ⟨rfl, HX3.out.below⟩
  | true =>
    have hnew := fun W => fnew_yes W a0 s1_0 s1_1 s1_2 s1_3 hgd
    have HI0 := Lib.hid (FInv.new hgd (x := 0) ⟨by decide, by decide⟩)
    clear hgd
    go_enter Try.func3, Try.ntmps3
    go_wp2_with (first
      | (go_at_call 7; refine (alive_yes _).mono ?_; rintro e w1 ⟨rfl, hb1⟩; have HX1 := Lib.hid (HB0.out.next hb1); have x0 := HX1.out.holds.cell 0; have x1 := HX1.out.holds.cell 1; have x2 := HX1.out.holds.cell 2; have x3 := HX1.out.holds.cell 3; clear hb1)
      | (go_at_call 9; refine (lrules_any _ _ _ _ _).mono ?_; rintro e w2 ⟨rfl, hb2⟩; have HX2 := Lib.hid (HX1.out.next hb2); clear hb2 x0 x1 x2 x3)
      | (go_at_call 8; refine (hnew _).mono ?_; rintro e w3 ⟨gf, g, b, rfl, hF3, hb3⟩; have HL0 := Lib.hid ((Lf.start HX2.out hF3 HI0.out hb3).alloc (.cells ([.int .i64 0, .int .i64 0, .int .i64 0, .int .i64 0, .int .u16 0, .int .u16 0, .int .i64 0, .int .i64 0, .int .i64 0, .int .i64 0, .int .i64 0, .int .i64 0, .int .i64 0, .int .i64 0] : List Value).toArray 37)); have HG0 := Lib.hid (Holds.new w3 37 ([.int .i64 0, .int .i64 0, .int .i64 0, .int .i64 0, .int .u16 0, .int .u16 0, .int .i64 0, .int .i64 0, .int .i64 0, .int .i64 0, .int .i64 0, .int .i64 0, .int .i64 0, .int .i64 0] : List Value).toArray); have hgl : w.heap.size < w3.heap.size := Nat.lt_of_lt_of_le HX2.out.lt hb3.size; clear hF3 hb3 hnew))
    go_loopw [10, 34] (fun at' i wr => ∃ (k b n : Nat) (f : FS) (A p0 p1 p2 p3 p4 p5 p6 p7 p8 p9 p10 p11 p12 p13 : Int), k ≤ n2 ∧ i = .int .i64 k ∧ at' = .int .i64 A ∧ n ≤ k ∧ f.s.me = a0 ∧ SayI f p3 p4 p5 p6 p7 A ∧ Lf w wr 23 #[.int .i64 s1_0, .int .i64 s1_1, .int .i64 s1_2, .int .i64 s1_3] gf g b n f ∧ Holds wr w3.heap.size 37 ([.int .i64 p0, .int .i64 p1, .int .i64 p2, .int .i64 p3, .int .u16 p4, .int .u16 p5, .int .i64 p6, .int .i64 p7, .int .i64 p8, .int .i64 p9, .int .i64 p10, .int .i64 p11, .int .i64 p12, .int .i64 p13] : List Value).toArray) (fun _ i _ => n2 - (intOf i).toNat)
    case atStart => exact ⟨0, b, 0, newF a0 s1_0 s1_1 s1_2 s1_3 0, 0, 0, 0, 0, 0, 0, 0, 0, 0, 0, 0, 0, 0, 0, 0, by omega, rfl, rfl, by omega, rfl, say_new _ _ _ _ _ _, HL0.out, HG0.out⟩
    case round =>
      obtain ⟨k, b, n, f, A, p0, p1, p2, p3, p4, p5, p6, p7, p8, p9, p10, p11, p12, p13, hk, rfl, rfl, hn, hme, hsay, hL, hG⟩ := hrel
      have HL := Lib.hid hL
      have HG := Lib.hid hG
      clear hL hG HL0 HG0
      by_cases hlt : k < n2
      · skip
        obtain ⟨a, off, rfl, hb', hc⟩ := (R.out.below HL.out.law).at 16 rfl hlt
        obtain ⟨s0, s1, s2, s3, s4, s5, s6, s7, s8, s9, s10, s11, s12, s13, s14, s15, hf, hw0, hw1, hw2, hw3, hw4, hw5, hw6, hw7, hw8, hw9, hw10, hw11, hw12, hw13, hw14, hw15⟩ := cells2 (R.out.fit k hlt)
        have q0 : wr.cell? ⟨a, off + k * 16, none⟩ = some (.int .i64 s0) := hc 0 _ (by rw [hf]; rfl)
        have q1 : wr.cell? ⟨a, off + k * 16 + 1, none⟩ = some (.int .i64 s1) := hc 1 _ (by rw [hf]; rfl)
        have q2 : wr.cell? ⟨a, off + k * 16 + 2, none⟩ = some (.int .i64 s2) := hc 2 _ (by rw [hf]; rfl)
        have q3 : wr.cell? ⟨a, off + k * 16 + 3, none⟩ = some (.int .i64 s3) := hc 3 _ (by rw [hf]; rfl)
        have q4 : wr.cell? ⟨a, off + k * 16 + 4, none⟩ = some (.int .i64 s4) := hc 4 _ (by rw [hf]; rfl)
        have q5 : wr.cell? ⟨a, off + k * 16 + 5, none⟩ = some (.int .i64 s5) := hc 5 _ (by rw [hf]; rfl)
        have q6 : wr.cell? ⟨a, off + k * 16 + 6, none⟩ = some (.int .u16 s6) := hc 6 _ (by rw [hf]; rfl)
        have q7 : wr.cell? ⟨a, off + k * 16 + 7, none⟩ = some (.int .u16 s7) := hc 7 _ (by rw [hf]; rfl)
        have q8 : wr.cell? ⟨a, off + k * 16 + 8, none⟩ = some (.int .i64 s8) := hc 8 _ (by rw [hf]; rfl)
        have q9 : wr.cell? ⟨a, off + k * 16 + 9, none⟩ = some (.int .i64 s9) := hc 9 _ (by rw [hf]; rfl)
        have q10 : wr.cell? ⟨a, off + k * 16 + 10, none⟩ = some (.int .i64 s10) := hc 10 _ (by rw [hf]; rfl)
        have q11 : wr.cell? ⟨a, off + k * 16 + 11, none⟩ = some (.int .i64 s11) := hc 11 _ (by rw [hf]; rfl)
        have q12 : wr.cell? ⟨a, off + k * 16 + 12, none⟩ = some (.int .i64 s12) := hc 12 _ (by rw [hf]; rfl)
        have q13 : wr.cell? ⟨a, off + k * 16 + 13, none⟩ = some (.int .i64 s13) := hc 13 _ (by rw [hf]; rfl)
        have q14 : wr.cell? ⟨a, off + k * 16 + 14, none⟩ = some (.int .i64 s14) := hc 14 _ (by rw [hf]; rfl)
        have q15 : wr.cell? ⟨a, off + k * 16 + 15, none⟩ = some (.int .i64 s15) := hc 15 _ (by rw [hf]; rfl)
        have f6 := f16_wf hw6
        have f7 := f16_wf hw7
        have f5 := fits_wf hw5
        have fl := fits_wf hw1
        have ew := IntWalk.i64_in ((k : Int) + 1) (by omega)
        have HL1 := Lib.hid (HL.out.alloc (.cells #[.int .i64 s0, .int .i64 s1, .int .i64 s2, .int .i64 s3, .int .i64 s4, .int .i64 s5, .int .u16 s6, .int .u16 s7, .int .i64 s8, .int .i64 s9, .int .i64 s10, .int .i64 s11, .int .i64 s12, .int .i64 s13, .int .i64 s14, .int .i64 s15] 39))
        have HO := Lib.hid (Holds.new wr 39 #[.int .i64 s0, .int .i64 s1, .int .i64 s2, .int .i64 s3, .int .i64 s4, .int .i64 s5, .int .u16 s6, .int .u16 s7, .int .i64 s8, .int .i64 s9, .int .i64 s10, .int .i64 s11, .int .i64 s12, .int .i64 s13, .int .i64 s14, .int .i64 s15])
        clear hc hf hw0 hw1 hw2 hw3 hw4 hw5 hw6 hw7 hw8 hw9 hw10 hw11 hw12 hw13 hw14 hw15
        have HIf := Lib.hid HL.out.inv
        have HG1 := Lib.hid (HG.out.alloc (.cells #[.int .i64 s0, .int .i64 s1, .int .i64 s2, .int .i64 s3, .int .i64 s4, .int .i64 s5, .int .u16 s6, .int .u16 s7, .int .i64 s8, .int .i64 s9, .int .i64 s10, .int .i64 s11, .int .i64 s12, .int .i64 s13, .int .i64 s14, .int .i64 s15] 39))
        have hkind : decide (s0 ≤ 2) = true ∧ (s0 == 3) = false ∧ (s0 == 4) = false ∨ (s0 = 3 ∨ s0 = 4) ∨ decide (s0 ≤ 2) = false ∧ (s0 == 3) = false ∧ (s0 == 4) = false := by
          by_cases k2 : s0 ≤ 2
          · exact .inl ⟨decide_eq_true k2, by simp; omega, by simp; omega⟩
          · by_cases k3 : s0 = 3
            · exact .inr (.inl (.inl k3))
            · by_cases k4 : s0 = 4
              · exact .inr (.inl (.inr k4))
              · exact .inr (.inr ⟨decide_eq_false k2, by simp [k3], by simp [k4]⟩)
        rcases hkind with ⟨k2, k3, k4⟩ | hkind | ⟨k2, k3, k4⟩
        · have hhr := fun W (h : Lf w W 23 #[.int .i64 s1_0, .int .i64 s1_1, .int .i64 s1_2, .int .i64 s1_3] gf g b n f) => fhear_any W _ gf g b n f h.fo h.inv (by omega) s3 s5 s6 s7 s8 s9 s1 f5 f6 f7
          unfold FHeard at hhr
          have hIF := HIf.out.hear s5 s6 s7 s9 s8 s1 f6 f7
          have hways := say_hear HIf.out s5 s6 s7 s9 s8 s1 f6 f7
          have hmF : (hearFS f s5 s6 s7 s9 s8 s1).s.me = a0 := (hear_me _ _ _ _ _ _ _).trans hme
          obtain ⟨F, hF⟩ : ∃ F, hearFS f s5 s6 s7 s9 s8 s1 = F := ⟨_, rfl⟩
          obtain ⟨V, hV⟩ : ∃ V, hearFV f s5 s6 s7 s9 s8 s1 = V := ⟨_, rfl⟩
          rw [hF] at hIF hmF hways
          rw [hV] at hways
          simp only [hF, hV] at hhr
          have HHr := Lib.hid hhr
          have HIF := Lib.hid hIF
          have HLd := Lib.hid HL1.out.drew
          have HOd := Lib.hid (HO.out.drewN 1)
          have HGd := Lib.hid (HG1.out.drewN 1)
          have HSa := Lib.hid hsay
          have HMe := Lib.hid hme
          have HMF := Lib.hid hmF
          clear hF hV hhr hIF hsay hme hmF
          go_upto_region 14 with fail
          refine region_turns (fun (w' : World) => w'.cell? ⟨wr.heap.size, 1, none⟩ = some (.int .i64 s1) ∧ w'.cell? ⟨wr.heap.size, 2, none⟩ = some (.int .i64 s2) ∧ w'.cell? ⟨wr.heap.size, 3, none⟩ = some (.int .i64 s3) ∧ w'.cell? ⟨wr.heap.size, 4, none⟩ = some (.int .i64 s4) ∧ w'.cell? ⟨wr.heap.size, 5, none⟩ = some (.int .i64 s5) ∧ w'.cell? ⟨wr.heap.size, 6, none⟩ = some (.int .u16 s6) ∧ w'.cell? ⟨wr.heap.size, 7, none⟩ = some (.int .u16 s7) ∧ w'.cell? ⟨wr.heap.size, 8, none⟩ = some (.int .i64 s8) ∧ w'.cell? ⟨wr.heap.size, 9, none⟩ = some (.int .i64 s9) ∧ w'.cell? ⟨wr.heap.size, 10, none⟩ = some (.int .i64 s10) ∧ w'.cell? ⟨wr.heap.size, 11, none⟩ = some (.int .i64 s11) ∧ w'.cell? ⟨wr.heap.size, 12, none⟩ = some (.int .i64 s12) ∧ w'.cell? ⟨wr.heap.size, 13, none⟩ = some (.int .i64 s13) ∧ w'.cell? ⟨wr.heap.size, 14, none⟩ = some (.int .i64 s14) ∧ w'.cell? ⟨wr.heap.size, 15, none⟩ = some (.int .i64 s15)) (fun j => decide (8 ≤ j)) (by kernel_rfl) (⟨HOd.out.cell 1, HOd.out.cell 2, HOd.out.cell 3, HOd.out.cell 4, HOd.out.cell 5, HOd.out.cell 6, HOd.out.cell 7, HOd.out.cell 8, HOd.out.cell 9, HOd.out.cell 10, HOd.out.cell 11, HOd.out.cell 12, HOd.out.cell 13, HOd.out.cell 14, HOd.out.cell 15⟩) (fun hS => ?_)
          refine Turns.take hS 0 _ rfl (by kernel_rfl) (by kernel_rfl) (by kernel_rfl) (by kernel_rfl) (fun _ _ _ h => h) (by rfl) (fun w' hS' => by (try dsimp only at hS'); go_split_ands; go_simp; (try with_reducible rfl)) ?_
          simp only [Act.put, List.getElem_toArray, List.getElem_cons_succ, List.getElem_cons_zero, List.setIfInBounds_toArray, List.set_cons_zero, List.set_cons_succ]
          refine Turns.take hS 1 _ rfl (by kernel_rfl) (by kernel_rfl) (by kernel_rfl) (by kernel_rfl) (fun _ _ _ h => h) (by rfl) (fun w' hS' => by (try dsimp only at hS'); go_split_ands; go_simp; (try with_reducible rfl)) ?_
          simp only [Act.put, List.getElem_toArray, List.getElem_cons_succ, List.getElem_cons_zero, List.setIfInBounds_toArray, List.set_cons_zero, List.set_cons_succ]
          refine Turns.take hS 2 _ rfl (by kernel_rfl) (by kernel_rfl) (by kernel_rfl) (by kernel_rfl) (fun _ _ _ h => h) (by rfl) (fun w' hS' => by (try dsimp only at hS'); go_split_ands; go_simp; (try with_reducible rfl)) ?_
          simp only [Act.put, List.getElem_toArray, List.getElem_cons_succ, List.getElem_cons_zero, List.setIfInBounds_toArray, List.set_cons_zero, List.set_cons_succ]
          refine Turns.take hS 4 _ rfl (by kernel_rfl) (by kernel_rfl) (by kernel_rfl) (by kernel_rfl) (fun _ _ _ h => h) (by rfl) (fun w' hS' => by (try dsimp only at hS'); go_split_ands; go_simp; (try with_reducible rfl)) ?_
          simp only [Act.put, List.getElem_toArray, List.getElem_cons_succ, List.getElem_cons_zero, List.setIfInBounds_toArray, List.set_cons_zero, List.set_cons_succ]
          refine Turns.take hS 5 _ rfl (by kernel_rfl) (by kernel_rfl) (by kernel_rfl) (by kernel_rfl) (fun _ _ _ h => h) (by rfl) (fun w' hS' => by (try dsimp only at hS'); go_split_ands; go_simp; (try with_reducible rfl)) ?_
          simp only [Act.put, List.getElem_toArray, List.getElem_cons_succ, List.getElem_cons_zero, List.setIfInBounds_toArray, List.set_cons_zero, List.set_cons_succ]
          refine Turns.next 3 rfl (by kernel_rfl) (by rfl) (fun K hK => ?_)
          go_simp
          go_at_call 11
          refine (lsync_any _ _ _ _ _ _ _ _ _ _ _ _ _ _ _).mono ?_
          rintro e w4 ⟨rfl, hb4⟩
          have HL4 := Lib.hid (HLd.out.below hb4)
          have HO4 := Lib.hid (HOd.out.below hb4 HOd.out.lt)
          have HG4 := Lib.hid (HGd.out.below hb4 HGd.out.lt)
          clear hb4
          refine hK.out _ _ (show (fun (w' : World) => w'.cell? ⟨wr.heap.size, 1, none⟩ = some (.int .i64 s1) ∧ w'.cell? ⟨wr.heap.size, 2, none⟩ = some (.int .i64 s2) ∧ w'.cell? ⟨wr.heap.size, 3, none⟩ = some (.int .i64 s3) ∧ w'.cell? ⟨wr.heap.size, 4, none⟩ = some (.int .i64 s4) ∧ w'.cell? ⟨wr.heap.size, 5, none⟩ = some (.int .i64 s5) ∧ w'.cell? ⟨wr.heap.size, 6, none⟩ = some (.int .u16 s6) ∧ w'.cell? ⟨wr.heap.size, 7, none⟩ = some (.int .u16 s7) ∧ w'.cell? ⟨wr.heap.size, 8, none⟩ = some (.int .i64 s8) ∧ w'.cell? ⟨wr.heap.size, 9, none⟩ = some (.int .i64 s9) ∧ w'.cell? ⟨wr.heap.size, 10, none⟩ = some (.int .i64 s10) ∧ w'.cell? ⟨wr.heap.size, 11, none⟩ = some (.int .i64 s11) ∧ w'.cell? ⟨wr.heap.size, 12, none⟩ = some (.int .i64 s12) ∧ w'.cell? ⟨wr.heap.size, 13, none⟩ = some (.int .i64 s13) ∧ w'.cell? ⟨wr.heap.size, 14, none⟩ = some (.int .i64 s14) ∧ w'.cell? ⟨wr.heap.size, 15, none⟩ = some (.int .i64 s15)) _ from ⟨HO4.out.cell 1, HO4.out.cell 2, HO4.out.cell 3, HO4.out.cell 4, HO4.out.cell 5, HO4.out.cell 6, HO4.out.cell 7, HO4.out.cell 8, HO4.out.cell 9, HO4.out.cell 10, HO4.out.cell 11, HO4.out.cell 12, HO4.out.cell 13, HO4.out.cell 14, HO4.out.cell 15⟩) ?_
          clear hK K hS
          have hS := (show (fun (w' : World) => w'.cell? ⟨wr.heap.size, 1, none⟩ = some (.int .i64 s1) ∧ w'.cell? ⟨wr.heap.size, 2, none⟩ = some (.int .i64 s2) ∧ w'.cell? ⟨wr.heap.size, 3, none⟩ = some (.int .i64 s3) ∧ w'.cell? ⟨wr.heap.size, 4, none⟩ = some (.int .i64 s4) ∧ w'.cell? ⟨wr.heap.size, 5, none⟩ = some (.int .i64 s5) ∧ w'.cell? ⟨wr.heap.size, 6, none⟩ = some (.int .u16 s6) ∧ w'.cell? ⟨wr.heap.size, 7, none⟩ = some (.int .u16 s7) ∧ w'.cell? ⟨wr.heap.size, 8, none⟩ = some (.int .i64 s8) ∧ w'.cell? ⟨wr.heap.size, 9, none⟩ = some (.int .i64 s9) ∧ w'.cell? ⟨wr.heap.size, 10, none⟩ = some (.int .i64 s10) ∧ w'.cell? ⟨wr.heap.size, 11, none⟩ = some (.int .i64 s11) ∧ w'.cell? ⟨wr.heap.size, 12, none⟩ = some (.int .i64 s12) ∧ w'.cell? ⟨wr.heap.size, 13, none⟩ = some (.int .i64 s13) ∧ w'.cell? ⟨wr.heap.size, 14, none⟩ = some (.int .i64 s14) ∧ w'.cell? ⟨wr.heap.size, 15, none⟩ = some (.int .i64 s15)) _ from ⟨HO4.out.cell 1, HO4.out.cell 2, HO4.out.cell 3, HO4.out.cell 4, HO4.out.cell 5, HO4.out.cell 6, HO4.out.cell 7, HO4.out.cell 8, HO4.out.cell 9, HO4.out.cell 10, HO4.out.cell 11, HO4.out.cell 12, HO4.out.cell 13, HO4.out.cell 14, HO4.out.cell 15⟩)
          refine Turns.next 6 rfl (by kernel_rfl) (by rfl) (fun K hK => ?_)
          go_simp
          go_at_call 10
          refine (HHr.out _ HL4.out).mono ?_
          rintro e w5 ⟨rfl, hg5⟩
          obtain ⟨b5, hL5, hc5⟩ := HL4.out.step hg5 HIF.out
          have HO5 := Lib.hid (HL4.out.other HO4.out (by constructor <;> decide) hc5)
          have HG5 := Lib.hid (HL4.out.other HG4.out (by constructor <;> decide) hc5)
          have HL5 := Lib.hid hL5
          clear hg5 hL5 hc5
          refine hK.out _ _ (show (fun (w' : World) => w'.cell? ⟨wr.heap.size, 1, none⟩ = some (.int .i64 s1) ∧ w'.cell? ⟨wr.heap.size, 2, none⟩ = some (.int .i64 s2) ∧ w'.cell? ⟨wr.heap.size, 3, none⟩ = some (.int .i64 s3) ∧ w'.cell? ⟨wr.heap.size, 4, none⟩ = some (.int .i64 s4) ∧ w'.cell? ⟨wr.heap.size, 5, none⟩ = some (.int .i64 s5) ∧ w'.cell? ⟨wr.heap.size, 6, none⟩ = some (.int .u16 s6) ∧ w'.cell? ⟨wr.heap.size, 7, none⟩ = some (.int .u16 s7) ∧ w'.cell? ⟨wr.heap.size, 8, none⟩ = some (.int .i64 s8) ∧ w'.cell? ⟨wr.heap.size, 9, none⟩ = some (.int .i64 s9) ∧ w'.cell? ⟨wr.heap.size, 10, none⟩ = some (.int .i64 s10) ∧ w'.cell? ⟨wr.heap.size, 11, none⟩ = some (.int .i64 s11) ∧ w'.cell? ⟨wr.heap.size, 12, none⟩ = some (.int .i64 s12) ∧ w'.cell? ⟨wr.heap.size, 13, none⟩ = some (.int .i64 s13) ∧ w'.cell? ⟨wr.heap.size, 14, none⟩ = some (.int .i64 s14) ∧ w'.cell? ⟨wr.heap.size, 15, none⟩ = some (.int .i64 s15)) _ from ⟨HO5.out.cell 1, HO5.out.cell 2, HO5.out.cell 3, HO5.out.cell 4, HO5.out.cell 5, HO5.out.cell 6, HO5.out.cell 7, HO5.out.cell 8, HO5.out.cell 9, HO5.out.cell 10, HO5.out.cell 11, HO5.out.cell 12, HO5.out.cell 13, HO5.out.cell 14, HO5.out.cell 15⟩) ?_
          clear hK K hS
          have hS := (show (fun (w' : World) => w'.cell? ⟨wr.heap.size, 1, none⟩ = some (.int .i64 s1) ∧ w'.cell? ⟨wr.heap.size, 2, none⟩ = some (.int .i64 s2) ∧ w'.cell? ⟨wr.heap.size, 3, none⟩ = some (.int .i64 s3) ∧ w'.cell? ⟨wr.heap.size, 4, none⟩ = some (.int .i64 s4) ∧ w'.cell? ⟨wr.heap.size, 5, none⟩ = some (.int .i64 s5) ∧ w'.cell? ⟨wr.heap.size, 6, none⟩ = some (.int .u16 s6) ∧ w'.cell? ⟨wr.heap.size, 7, none⟩ = some (.int .u16 s7) ∧ w'.cell? ⟨wr.heap.size, 8, none⟩ = some (.int .i64 s8) ∧ w'.cell? ⟨wr.heap.size, 9, none⟩ = some (.int .i64 s9) ∧ w'.cell? ⟨wr.heap.size, 10, none⟩ = some (.int .i64 s10) ∧ w'.cell? ⟨wr.heap.size, 11, none⟩ = some (.int .i64 s11) ∧ w'.cell? ⟨wr.heap.size, 12, none⟩ = some (.int .i64 s12) ∧ w'.cell? ⟨wr.heap.size, 13, none⟩ = some (.int .i64 s13) ∧ w'.cell? ⟨wr.heap.size, 14, none⟩ = some (.int .i64 s14) ∧ w'.cell? ⟨wr.heap.size, 15, none⟩ = some (.int .i64 s15)) _ from ⟨HO5.out.cell 1, HO5.out.cell 2, HO5.out.cell 3, HO5.out.cell 4, HO5.out.cell 5, HO5.out.cell 6, HO5.out.cell 7, HO5.out.cell 8, HO5.out.cell 9, HO5.out.cell 10, HO5.out.cell 11, HO5.out.cell 12, HO5.out.cell 13, HO5.out.cell 14, HO5.out.cell 15⟩)
          refine Turns.take hS 7 _ rfl (by kernel_rfl) (by kernel_rfl) (by kernel_rfl) (by kernel_rfl) (fun _ _ _ h => h) (by rfl) (fun w' hS' => by (try dsimp only at hS'); go_split_ands; go_simp; (try with_reducible rfl)) ?_
          simp only [Act.put, List.getElem_toArray, List.getElem_cons_succ, List.getElem_cons_zero, List.setIfInBounds_toArray, List.set_cons_zero, List.set_cons_succ]
          refine Turns.rest (late_done (by kernel_rfl)) ?_
          refine any_tail 8 (by rfl) (by kernel_rfl) ?_
          simp only [List.drop_succ_cons, List.drop_zero]
          clear hS
          have o0 := HO5.out.cell 0
          have o1 := HO5.out.cell 1
          have o2 := HO5.out.cell 2
          have o3 := HO5.out.cell 3
          have o4 := HO5.out.cell 4
          have o5 := HO5.out.cell 5
          have o6 := HO5.out.cell 6
          have o7 := HO5.out.cell 7
          have o8 := HO5.out.cell 8
          have o9 := HO5.out.cell 9
          have o10 := HO5.out.cell 10
          have o11 := HO5.out.cell 11
          have o12 := HO5.out.cell 12
          have o13 := HO5.out.cell 13
          have o14 := HO5.out.cell 14
          have o15 := HO5.out.cell 15
          rcases hways with ⟨rfl, rfl⟩ | ⟨dv, hsF⟩
          · as_aux_lemma =>
              go_wp2
              go_roundw
              case rel => exact ⟨k + 1, b5, n + 1, _, A, p0, p1, p2, p3, p4, p5, p6, p7, p8, p9, p10, p11, p12, p13, by omega, by go_num, rfl, by omega, HMe.out, HSa.out, HL5.out, HG5.out⟩
              case measure => simp [intOf]; omega
          · as_aux_lemma =>
              have HSF := Lib.hid hsF
              have HRow := Lib.hid (row_put HG5.out (show ([.int .i64 s2, .int .i64 s3, .int .i64 s4, .int .i64 s5, .int .u16 s6, .int .u16 s7, .int .i64 s8, .int .i64 s9, .int .i64 s10, .int .i64 s11, .int .i64 s12, .int .i64 s13, .int .i64 s14, .int .i64 s15] : List Value).length = ([.int .i64 p0, .int .i64 p1, .int .i64 p2, .int .i64 p3, .int .u16 p4, .int .u16 p5, .int .i64 p6, .int .i64 p7, .int .i64 p8, .int .i64 p9, .int .i64 p10, .int .i64 p11, .int .i64 p12, .int .i64 p13] : List Value).length from rfl))
              have HLr := Lib.hid (HL5.out.row HG5.out (by constructor <;> decide) hgl (splice ([.int .i64 p0, .int .i64 p1, .int .i64 p2, .int .i64 p3, .int .u16 p4, .int .u16 p5, .int .i64 p6, .int .i64 p7, .int .i64 p8, .int .i64 p9, .int .i64 p10, .int .i64 p11, .int .i64 p12, .int .i64 p13] : List Value) 0 ([.int .i64 s2, .int .i64 s3, .int .i64 s4, .int .i64 s5, .int .u16 s6, .int .u16 s7, .int .i64 s8, .int .i64 s9, .int .i64 s10, .int .i64 s11, .int .i64 s12, .int .i64 s13, .int .i64 s14, .int .i64 s15] : List Value)).toArray)
              have HOr := Lib.hid (HO5.out.grown (grown_row w5 w3.heap.size (splice ([.int .i64 p0, .int .i64 p1, .int .i64 p2, .int .i64 p3, .int .u16 p4, .int .u16 p5, .int .i64 p6, .int .i64 p7, .int .i64 p8, .int .i64 p9, .int .i64 p10, .int .i64 p11, .int .i64 p12, .int .i64 p13] : List Value) 0 ([.int .i64 s2, .int .i64 s3, .int .i64 s4, .int .i64 s5, .int .u16 s6, .int .u16 s7, .int .i64 s8, .int .i64 s9, .int .i64 s10, .int .i64 s11, .int .i64 s12, .int .i64 s13, .int .i64 s14, .int .i64 s15] : List Value)).toArray) (fun e => by have e' := Option.some.inj e; have hlt3 := HG.out.lt; rw [← e'] at hlt3; omega))
              have r0 := HOr.out.cell 0
              have r1 := HOr.out.cell 1
              clear hsF
              go_wp2_with (refine wpList_store_at rfl 37 (.tmp 9) (.tmp 50) rfl w3.heap.size 0 [.int .i64 s2, .int .i64 s3, .int .i64 s4, .int .i64 s5, .int .u16 s6, .int .u16 s7, .int .i64 s8, .int .i64 s9, .int .i64 s10, .int .i64 s11, .int .i64 s12, .int .i64 s13, .int .i64 s14, .int .i64 s15] rfl rfl 37 [.int .i64 p0, .int .i64 p1, .int .i64 p2, .int .i64 p3, .int .u16 p4, .int .u16 p5, .int .i64 p6, .int .i64 p7, .int .i64 p8, .int .i64 p9, .int .i64 p10, .int .i64 p11, .int .i64 p12, .int .i64 p13] HG5.out plain_size' (Nat.le_refl 14) (row_one _ rfl) ?_)
              go_roundw
              case rel => exact ⟨k + 1, b5, n + 1, F, s1, s2, s3, s4, s5, s6, s7, s8, s9, s10, s11, s12, s13, s14, s15, by omega, by go_num, rfl, by omega, HMF.out, HSF.out, HLr.out, HRow.out⟩
              case measure => simp [intOf]; omega
        · have hrt := eroot_any _ _ _ _ _ _ HL1.out.fo.node
          have o1 := HO.out.cell 1
          have k0 := HL1.out.fo.cells.1
          have hsb := say_beat hsay
          have hmb : (beatF f).s.me = a0 := (beat_me f).trans hme
          obtain ⟨W, ok, F, hs⟩ := says_is (beatF f) s1
          rcases says_ways hs with ⟨e1, rfl, rfl, hF⟩ | ⟨e1, e2, rfl, rfl, hF⟩ | ⟨e1, e2, e3, rfl, rfl, hF⟩ | ⟨e1, e2, e3, hF, ⟨e4, rfl, rfl⟩ | ⟨e4, rfl, rfl⟩⟩
          · have HMF : Hid (F.s.me = a0) := Lib.hid (by rw [hF]; exact hmb)
            have HSF : Hid (SayI F p3 p4 p5 p6 p7 A) := Lib.hid (by rw [hF]; exact hsb)
            have HIF := Lib.hid (HIf.out.beat.says hs)
            have hbt := fbeat_any _ _ gf g b n f HL1.out.fo HIf.out s1 fl _ _ F hs
            unfold wordV at hbt
            try simp only [] at hbt
            unfold noW at hbt
            try simp only [] at hbt
            clear hs hF hsay hsb hmb hme e1
            rcases hkind with rfl | rfl <;>
            · as_aux_lemma =>
                go_wp2_with (first
                  | (go_at_call 12; refine hrt.mono ?_; rintro e wx ⟨rfl, hwx⟩; subst wx)
                  | (go_at_call 13; refine hbt.mono ?_; rintro e w4 ⟨rfl, hg4⟩; obtain ⟨b4, hL4, hc4⟩ := HL1.out.step hg4 HIF.out; have HO4 := Lib.hid ((HL1.out.other HO.out (by constructor <;> decide) hc4).alloc (.cells #[.int .i64 0, .int .i64 0, .int .u16 0, .int .u16 0, .int .i64 0, .int .i64 0] 43)); have HG4 := Lib.hid ((HL1.out.other HG1.out (by constructor <;> decide) hc4).alloc (.cells #[.int .i64 0, .int .i64 0, .int .u16 0, .int .u16 0, .int .i64 0, .int .i64 0] 43)); have HL4 := Lib.hid (hL4.alloc (.cells #[.int .i64 0, .int .i64 0, .int .u16 0, .int .u16 0, .int .i64 0, .int .i64 0] 43)); have HX4 := Lib.hid (Holds.new w4 43 #[.int .i64 0, .int .i64 0, .int .u16 0, .int .u16 0, .int .i64 0, .int .i64 0]); have x0 := HX4.out.cell 0; have x1 := HX4.out.cell 1; have x2 := HX4.out.cell 2; have x3 := HX4.out.cell 3; have x4 := HX4.out.cell 4; have x5 := HX4.out.cell 5; have l3 := HG4.out.cell 3; have l4 := HG4.out.cell 4; have l5 := HG4.out.cell 5; have l6 := HG4.out.cell 6; have l7 := HG4.out.cell 7; have r1 := HO4.out.cell 1; clear hg4 hL4 hc4))
                go_roundw
                case rel => exact ⟨k + 1, b4, n, F, A, p0, p1, p2, p3, p4, p5, p6, p7, p8, p9, p10, p11, p12, p13, by omega, by go_num, rfl, by omega, HMF.out, HSF.out, HL4.out, HG4.out⟩
                case measure => simp [intOf]; omega
          · have HMF : Hid (F.s.me = a0) := Lib.hid (by rw [hF]; exact (issue_root _).2.trans hmb)
            have hrm : (beatF f).s.root = (beatF f).s.me := of_decide_eq_true e2
            have hmF : F.s.root = F.s.me := by rw [hF]; exact ((issue_root (beatF f).s).1.trans hrm).trans (issue_root (beatF f).s).2.symm
            have HSF : Hid (SayI F p3 p4 p5 p6 p7 A) := Lib.hid (fun _ k => absurd hmF k)
            have HIF := Lib.hid (HIf.out.beat.says hs)
            have hbt := fbeat_any _ _ gf g b n f HL1.out.fo HIf.out s1 fl _ _ F hs
            unfold wordV at hbt
            try simp only [] at hbt
            obtain ⟨B0, hB0⟩ : ∃ B0, (beatF f).s.boot = B0 := ⟨_, rfl⟩
            obtain ⟨Q0, hQ0⟩ : ∃ Q0, nextV (beatF f).s.seq = Q0 := ⟨_, rfl⟩
            rw [hrm, hmb, hB0, hQ0] at hbt
            have HMi := Lib.hid (fun W b n (h : Lf w W 23 #[.int .i64 s1_0, .int .i64 s1_1, .int .i64 s1_2, .int .i64 s1_3] gf g b n F) => mine_at h.fo.node (v := true) (decide_eq_true hmF))
            have g0 : (a0 != a0) = false := by simp
            have g1 : (s1 != s1) = false := by simp
            have g2 : (a0 == a0) = true := by simp
            clear hs hF hsay hsb hmb hme e1 e2 hrm hmF hB0 hQ0
            rcases hkind with rfl | rfl <;>
            · as_aux_lemma =>
                go_wp2_with (first
                  | (go_at_call 12; refine hrt.mono ?_; rintro e wx ⟨rfl, hwx⟩; subst wx)
                  | (go_at_call 13; refine hbt.mono ?_; rintro e w4 ⟨rfl, hg4⟩; obtain ⟨b4, hL4, hc4⟩ := HL1.out.step hg4 HIF.out; have HO4 := Lib.hid ((HL1.out.other HO.out (by constructor <;> decide) hc4).alloc (.cells #[.int .i64 a0, .int .i64 a0, .int .u16 B0, .int .u16 Q0, .int .i64 0, .int .i64 s1] 43)); have HG4 := Lib.hid ((HL1.out.other HG1.out (by constructor <;> decide) hc4).alloc (.cells #[.int .i64 a0, .int .i64 a0, .int .u16 B0, .int .u16 Q0, .int .i64 0, .int .i64 s1] 43)); have HL4 := Lib.hid (hL4.alloc (.cells #[.int .i64 a0, .int .i64 a0, .int .u16 B0, .int .u16 Q0, .int .i64 0, .int .i64 s1] 43)); have HX4 := Lib.hid (Holds.new w4 43 #[.int .i64 a0, .int .i64 a0, .int .u16 B0, .int .u16 Q0, .int .i64 0, .int .i64 s1]); have x0 := HX4.out.cell 0; have x1 := HX4.out.cell 1; have x2 := HX4.out.cell 2; have x3 := HX4.out.cell 3; have x4 := HX4.out.cell 4; have x5 := HX4.out.cell 5; have l3 := HG4.out.cell 3; have l4 := HG4.out.cell 4; have l5 := HG4.out.cell 5; have l6 := HG4.out.cell 6; have l7 := HG4.out.cell 7; have r1 := HO4.out.cell 1; have k4 := HL4.out.fo.cells.1; have hmi := HMi.out _ _ _ HL4.out; clear hg4 hL4 hc4)
                  | (go_at_call 14; refine hmi.mono ?_; rintro e wx ⟨rfl, nq, rfl⟩))
                go_roundw
                case rel => exact ⟨k + 1, b4, n, F, A, p0, p1, p2, p3, p4, p5, p6, p7, p8, p9, p10, p11, p12, p13, by omega, by go_num, rfl, by omega, HMF.out, HSF.out, HL4.out.drewN _, HG4.out.drewN _⟩
                case measure => simp [intOf]; omega
          · have HMF : Hid (F.s.me = a0) := Lib.hid (by rw [hF]; exact hmb)
            have HSF : Hid (SayI F p3 p4 p5 p6 p7 A) := Lib.hid (by rw [hF]; exact hsb)
            have HIF := Lib.hid (HIf.out.beat.says hs)
            have hbt := fbeat_any _ _ gf g b n f HL1.out.fo HIf.out s1 fl _ _ F hs
            unfold wordV at hbt
            try simp only [] at hbt
            unfold noW at hbt
            try simp only [] at hbt
            clear hs hF hsay hsb hmb hme e1 e2 e3
            rcases hkind with rfl | rfl <;>
            · as_aux_lemma =>
                go_wp2_with (first
                  | (go_at_call 12; refine hrt.mono ?_; rintro e wx ⟨rfl, hwx⟩; subst wx)
                  | (go_at_call 13; refine hbt.mono ?_; rintro e w4 ⟨rfl, hg4⟩; obtain ⟨b4, hL4, hc4⟩ := HL1.out.step hg4 HIF.out; have HO4 := Lib.hid ((HL1.out.other HO.out (by constructor <;> decide) hc4).alloc (.cells #[.int .i64 0, .int .i64 0, .int .u16 0, .int .u16 0, .int .i64 0, .int .i64 0] 43)); have HG4 := Lib.hid ((HL1.out.other HG1.out (by constructor <;> decide) hc4).alloc (.cells #[.int .i64 0, .int .i64 0, .int .u16 0, .int .u16 0, .int .i64 0, .int .i64 0] 43)); have HL4 := Lib.hid (hL4.alloc (.cells #[.int .i64 0, .int .i64 0, .int .u16 0, .int .u16 0, .int .i64 0, .int .i64 0] 43)); have HX4 := Lib.hid (Holds.new w4 43 #[.int .i64 0, .int .i64 0, .int .u16 0, .int .u16 0, .int .i64 0, .int .i64 0]); have x0 := HX4.out.cell 0; have x1 := HX4.out.cell 1; have x2 := HX4.out.cell 2; have x3 := HX4.out.cell 3; have x4 := HX4.out.cell 4; have x5 := HX4.out.cell 5; have l3 := HG4.out.cell 3; have l4 := HG4.out.cell 4; have l5 := HG4.out.cell 5; have l6 := HG4.out.cell 6; have l7 := HG4.out.cell 7; have r1 := HO4.out.cell 1; clear hg4 hL4 hc4))
                go_roundw
                case rel => exact ⟨k + 1, b4, n, F, A, p0, p1, p2, p3, p4, p5, p6, p7, p8, p9, p10, p11, p12, p13, by omega, by go_num, rfl, by omega, HMF.out, HSF.out, HL4.out, HG4.out⟩
                case measure => simp [intOf]; omega
          · have HMF : Hid (F.s.me = a0) := Lib.hid (by rw [hF]; exact hmb)
            have HSF : Hid (SayI F p3 p4 p5 p6 p7 A) := Lib.hid (by rw [hF]; exact hsb)
            have HIF := Lib.hid (HIf.out.beat.says hs)
            have hbt := fbeat_any _ _ gf g b n f HL1.out.fo HIf.out s1 fl _ _ F hs
            unfold wordV at hbt
            try simp only [] at hbt
            have hro := pass_root e2
            have hL0 := syn_some HIf.out.beat e2 e3
            have hr0 := HIf.out.beat.know hL0
            have hrn : (beatF f).s.root ≠ (beatF f).s.me := of_decide_eq_false e2
            obtain ⟨i1, i2, i3, i4, i5⟩ := hsb hr0 hrn
            have hpl := HIf.out.beat.pl
            have hpg := HIf.out.beat.pg
            have hph := HIf.out.beat.ph
            have htm := (timeB_iff s1).1 e1
            rw [i2, ← i1, i3, i4, i5, hmb] at hbt
            rw [i5] at hpl
            rw [i4] at hpg
            rw [i3] at hph
            unfold CanT at hpl hpg htm
            have hrf : f.s.root = p3 := (i1.trans hro).symm
            rw [hrf] at hrt
            have hpa : p3 ≠ a0 := by rw [i1, ← hmb]; exact hrn
            obtain ⟨T, hT⟩ : ∃ T, p7 + (s1 - A) = T := ⟨_, rfl⟩
            have w1 := IntWalk.i64_in (p7 + s1) (by omega)
            have w2 : IntKind.i64.wrap (p7 + s1 - A) = T := by rw [IntWalk.i64_in _ (by omega)]; omega
            have w3 := IntWalk.i64_in (p6 + 1) (by omega)
            simp only [hT] at hbt
            have g0 : (p3 != a0) = true := by simpa using hpa
            have g1 : (p3 == a0) = false := by simpa using hpa
            have g2 : (p3 != p3) = false := by simp
            have g3 : (p4 != p4) = false := by simp
            have g4 : (p5 != p5) = false := by simp
            have g5 : (p6 + 1 != p6 + 1) = false := by simp
            have g6 : (T != T) = false := by simp
            have g7 : (a0 != a0) = false := by simp
            clear hs hF hsay hsb hmb hme e1 e2 e3 e4 hro hL0 hr0 hrn i1 i2 i3 i4 i5 hpl hpg hph htm hrf hpa hT
            rcases hkind with rfl | rfl <;>
            · as_aux_lemma =>
                go_wp2_with (first
                  | (go_at_call 12; refine hrt.mono ?_; rintro e wx ⟨rfl, hwx⟩; subst wx)
                  | (go_at_call 13; refine hbt.mono ?_; rintro e w4 ⟨rfl, hg4⟩; obtain ⟨b4, hL4, hc4⟩ := HL1.out.step hg4 HIF.out; have HO4 := Lib.hid ((HL1.out.other HO.out (by constructor <;> decide) hc4).alloc (.cells #[.int .i64 a0, .int .i64 p3, .int .u16 p4, .int .u16 p5, .int .i64 (p6 + 1), .int .i64 T] 43)); have HG4 := Lib.hid ((HL1.out.other HG1.out (by constructor <;> decide) hc4).alloc (.cells #[.int .i64 a0, .int .i64 p3, .int .u16 p4, .int .u16 p5, .int .i64 (p6 + 1), .int .i64 T] 43)); have HL4 := Lib.hid (hL4.alloc (.cells #[.int .i64 a0, .int .i64 p3, .int .u16 p4, .int .u16 p5, .int .i64 (p6 + 1), .int .i64 T] 43)); have HX4 := Lib.hid (Holds.new w4 43 #[.int .i64 a0, .int .i64 p3, .int .u16 p4, .int .u16 p5, .int .i64 (p6 + 1), .int .i64 T]); have x0 := HX4.out.cell 0; have x1 := HX4.out.cell 1; have x2 := HX4.out.cell 2; have x3 := HX4.out.cell 3; have x4 := HX4.out.cell 4; have x5 := HX4.out.cell 5; have l3 := HG4.out.cell 3; have l4 := HG4.out.cell 4; have l5 := HG4.out.cell 5; have l6 := HG4.out.cell 6; have l7 := HG4.out.cell 7; have r1 := HO4.out.cell 1; clear hg4 hL4 hc4))
                go_roundw
                case rel => exact ⟨k + 1, b4, n, F, A, p0, p1, p2, p3, p4, p5, p6, p7, p8, p9, p10, p11, p12, p13, by omega, by go_num, rfl, by omega, HMF.out, HSF.out, HL4.out, HG4.out⟩
                case measure => simp [intOf]; omega
          · have HMF : Hid (F.s.me = a0) := Lib.hid (by rw [hF]; exact hmb)
            have HSF : Hid (SayI F p3 p4 p5 p6 p7 A) := Lib.hid (by rw [hF]; exact hsb)
            have HIF := Lib.hid (HIf.out.beat.says hs)
            have hbt := fbeat_any _ _ gf g b n f HL1.out.fo HIf.out s1 fl _ _ F hs
            unfold wordV at hbt
            try simp only [] at hbt
            unfold noW at hbt
            try simp only [] at hbt
            clear hs hF hsay hsb hmb hme e1 e2 e3 e4
            rcases hkind with rfl | rfl <;>
            · as_aux_lemma =>
                go_wp2_with (first
                  | (go_at_call 12; refine hrt.mono ?_; rintro e wx ⟨rfl, hwx⟩; subst wx)
                  | (go_at_call 13; refine hbt.mono ?_; rintro e w4 ⟨rfl, hg4⟩; obtain ⟨b4, hL4, hc4⟩ := HL1.out.step hg4 HIF.out; have HO4 := Lib.hid ((HL1.out.other HO.out (by constructor <;> decide) hc4).alloc (.cells #[.int .i64 0, .int .i64 0, .int .u16 0, .int .u16 0, .int .i64 0, .int .i64 0] 43)); have HG4 := Lib.hid ((HL1.out.other HG1.out (by constructor <;> decide) hc4).alloc (.cells #[.int .i64 0, .int .i64 0, .int .u16 0, .int .u16 0, .int .i64 0, .int .i64 0] 43)); have HL4 := Lib.hid (hL4.alloc (.cells #[.int .i64 0, .int .i64 0, .int .u16 0, .int .u16 0, .int .i64 0, .int .i64 0] 43)); have HX4 := Lib.hid (Holds.new w4 43 #[.int .i64 0, .int .i64 0, .int .u16 0, .int .u16 0, .int .i64 0, .int .i64 0]); have x0 := HX4.out.cell 0; have x1 := HX4.out.cell 1; have x2 := HX4.out.cell 2; have x3 := HX4.out.cell 3; have x4 := HX4.out.cell 4; have x5 := HX4.out.cell 5; have l3 := HG4.out.cell 3; have l4 := HG4.out.cell 4; have l5 := HG4.out.cell 5; have l6 := HG4.out.cell 6; have l7 := HG4.out.cell 7; have r1 := HO4.out.cell 1; clear hg4 hL4 hc4))
                go_roundw
                case rel => exact ⟨k + 1, b4, n, F, A, p0, p1, p2, p3, p4, p5, p6, p7, p8, p9, p10, p11, p12, p13, by omega, by go_num, rfl, by omega, HMF.out, HSF.out, HL4.out, HG4.out⟩
                case measure => simp [intOf]; omega
        · have o0 := HO.out.cell 0
          go_wp2
          go_roundw
          case rel => exact ⟨k + 1, b, n, f, A, p0, p1, p2, p3, p4, p5, p6, p7, p8, p9, p10, p11, p12, p13, by omega, by go_num, rfl, by omega, hme, hsay, HL1.out, HG1.out⟩
          case measure => simp [intOf]; omega
      · obtain rfl : k = n2 := by omega
        go_wp2
        go_ret
        exact ⟨rfl, HL.out.law⟩

set_option maxRecDepth 100000 in
theorem lifted (os : Os) (started : os.Started) (H : Type) (enc : TypeId × Value → H) :
    ReturnsInHanded {} Try.checked os 3 .any (Rows.floodSaysSpec.pre6 enc Try.prog Try.f3 Rows.floodSaysRow.domain false) (Rows.floodSaysSpec.post enc Try.prog Try.f3 false true false false) := by
  refine returnsInHanded_of_change (C := Try.checked) own started (by kernel_rfl) Try.func3
    (ChangeSpec.witness6 (enc := enc) (C := Try.checked) false ⟨#[], #[.int .i64 0, .agg #[.int .i64 0, .int .i64 0, .int .i64 0, .int .i64 0], .slice none 0 0], []⟩ 8 (by kernel_rfl) (by kernel_rfl) (by kernel_rfl) (by kernel_rfl)) ?_
  intro W base args ds gs before hval0 hW hcnd _
  have hval : ∀ (j : Nat) t v, Try.f3.params[j]? = some t → args[j]? = some v → Value.okWide Try.prog W .any base t v := hval0
  have hW' := hW
  obtain ⟨p, q, hA0, hV, rfl, hfz, hnd⟩ := hW
  have hA : DataW.TrodAll enc Try.prog W 0 (fun _ => true) true Try.f3.params.toList args.toList ds p := hA0
  have hAk := hA
  rw [Try.params3] at hA hval
  obtain ⟨v0, vs0, d0, ds0, p0, q0, hargs, rfl, hp, h0, r0⟩ := trodAll_cons hA
  obtain ⟨v1, vs1, d1, ds1, p1, q1, rfl, rfl, rfl, h1, r1⟩ := trodAll_cons r0
  obtain ⟨v2, vs2, d2, ds2, p2, q2, rfl, rfl, rfl, h2, r2⟩ := trodAll_cons r1
  obtain ⟨rfl, rfl, rfl⟩ := trodAll_nil r2
  obtain rfl : args = #[v0, v1, v2] := by cases args; simp_all
  obtain ⟨rfl, rfl⟩ := trodVars_none hV
  clear hA0 hval0 hargs
  simp only [List.append_nil] at hW'
  have hend : ∀ W' : World, Below W.heap.size W W' → Rows.floodSaysSpec.post enc Try.prog Try.f3 false true false false W #[v0, v1, v2] (.bool true) W' := fun W' hb =>
    law_post (tb := 4) hW' hAk rfl (by kernel_rfl) (by kernel_rfl) (by kernel_rfl) Try.underlying4 rfl rfl rfl hb
  clear hW' hAk hp
  obtain ⟨a0, rfl, rfl, rfl, w0⟩ := open_int Try.underlying3 (hval 0 3 v0 rfl rfl) h0
  obtain ⟨ns1, rfl, hl1, hw1⟩ := ints_struct (ks := [.i64, .i64, .i64, .i64]) Try.underlying23 (by kernel_rfl) (by kernel_rfl) (by kernel_rfl) (hval 1 23 v1 rfl rfl) h1
  obtain ⟨s1_0, s1_1, s1_2, s1_3, rfl⟩ := split4 hl1
  clear hl1
  obtain ⟨A2, n2, c2, f2, rfl, w2⟩ := flats_arg (ks := [.int .i64, .int .i64, .int .i64, .int .i64, .int .i64, .int .i64, .int .u16, .int .u16, .int .i64, .int .i64, .int .i64, .int .i64, .int .i64, .int .i64, .int .i64, .int .i64]) 9 Try.underlying24 (by kernel_rfl) (by kernel_rfl) (by decide) (hval 2 24 v2 rfl rfl) h2
  refine (walk a0 s1_0 s1_1 s1_2 s1_3 A2 n2 c2 f2 W w0 (hw1 0 _ _ rfl rfl) (hw1 1 _ _ rfl rfl) (hw1 2 _ _ rfl rfl) (hw1 3 _ _ rfl rfl) w2).mono fun e W' ⟨he, hg⟩ => ?_
  subst he
  exact ⟨_, rfl, hend W' hg⟩

theorem over : Rows.floodSaysRow.holds Try.pinned (OpenSpec.ofChange Rows.floodSaysSpec) :=
  OpenClaim.holds_of_wide 3 Try.f3 rfl rfl rfl rfl rfl rfl rfl ⟨rfl, rfl, rfl, rfl, rfl⟩ rfl rfl rfl rfl rfl (by kernel_rfl) Try.func3 (by kernel_rfl)
    (of_decide_eq_true (by kernel_rfl)) (by unfold Func.isWrapper; first | (rw [if_pos (by decide +kernel)]; kernel_rfl) | (rw [if_neg (by decide +kernel)]; exact ⟨rfl, rfl⟩))
    (fun os started H enc _ => lifted os started H enc)

/-- THE STATEMENT -/
theorem proved : Rows.FloodSaysSaid :=
  over
#print axioms proved
end Go.Proofs.Ytdnmgpendacjoaa.floodSays
