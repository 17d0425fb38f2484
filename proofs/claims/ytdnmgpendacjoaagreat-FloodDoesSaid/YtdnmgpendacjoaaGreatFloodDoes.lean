/-
  In every script each answer, the root, its mark, and how much is known, are the document's; what can't be is refused.
  The walk is the prover's own; the frame of the row's step follows the kit's template.
-/
import Derived.Test.YtdnmgpendacjoaaGreatRows
import Derived.Test.YtdnmgpendacjoaaGreatBunA
import Derived.Test.YtdnmgpendacjoaaGreatFlY
import Derived.Test.YtdnmgpendacjoaaGreatFdK
import Derived.Deep.QuietTactic
import Derived.BigQuiet
import Derived.Deep.CutBlock
import Derived.Deep.CutRange
namespace Go.Proofs.YtdnmgpendacjoaaGreat.floodDoes
open Go.ChangeShapes Go.WideShapes Go.ChangeAt Go.RowKit Go.ChangeMaps Go.WideElems
set_option linter.unusedVariables false

theorem split4 {ns : List Int} (h : ns.length = 4) : ∃ s1_0 s1_1 s1_2 s1_3 : Int, ns = [s1_0, s1_1, s1_2, s1_3] := by
  match ns, h with
  | [y0, y1, y2, y3], _ => exact ⟨_, _, _, _, rfl⟩
theorem cells2 {W : World} {vs : List Value} (h : Fit W [.int .i64, .int .i64, .int .i64, .int .i64, .int .i64, .int .i64, .int .u16, .int .u16, .int .i64, .int .i64, .int .i64, .int .i64, .int .i64, .int .i64, .int .i64, .int .i64] vs) : ∃ (s0 : Int) (s1 : Int) (s2 : Int) (s3 : Int) (s4 : Int) (s5 : Int) (s6 : Int) (s7 : Int) (s8 : Int) (s9 : Int) (s10 : Int) (s11 : Int) (s12 : Int) (s13 : Int) (s14 : Int) (s15 : Int), vs = [.int .i64 s0, .int .i64 s1, .int .i64 s2, .int .i64 s3, .int .i64 s4, .int .i64 s5, .int .u16 s6, .int .u16 s7, .int .i64 s8, .int .i64 s9, .int .i64 s10, .int .i64 s11, .int .i64 s12, .int .i64 s13, .int .i64 s14, .int .i64 s15] ∧ (Lit.int .i64 s0).wf = true ∧ (Lit.int .i64 s1).wf = true ∧ (Lit.int .i64 s2).wf = true ∧ (Lit.int .i64 s3).wf = true ∧ (Lit.int .i64 s4).wf = true ∧ (Lit.int .i64 s5).wf = true ∧ (Lit.int .u16 s6).wf = true ∧ (Lit.int .u16 s7).wf = true ∧ (Lit.int .i64 s8).wf = true ∧ (Lit.int .i64 s9).wf = true ∧ (Lit.int .i64 s10).wf = true ∧ (Lit.int .i64 s11).wf = true ∧ (Lit.int .i64 s12).wf = true ∧ (Lit.int .i64 s13).wf = true ∧ (Lit.int .i64 s14).wf = true ∧ (Lit.int .i64 s15).wf = true := by
  match vs, h.length, h with
  | [y0, y1, y2, y3, y4, y5, y6, y7, y8, y9, y10, y11, y12, y13, y14, y15], _, h =>
    obtain ⟨⟨x0, rfl, h0⟩, ⟨x1, rfl, h1⟩, ⟨x2, rfl, h2⟩, ⟨x3, rfl, h3⟩, ⟨x4, rfl, h4⟩, ⟨x5, rfl, h5⟩, ⟨x6, rfl, h6⟩, ⟨x7, rfl, h7⟩, ⟨x8, rfl, h8⟩, ⟨x9, rfl, h9⟩, ⟨x10, rfl, h10⟩, ⟨x11, rfl, h11⟩, ⟨x12, rfl, h12⟩, ⟨x13, rfl, h13⟩, ⟨x14, rfl, h14⟩, ⟨x15, rfl, h15⟩, _⟩ := h
    exact ⟨x0, x1, x2, x3, x4, x5, x6, x7, x8, x9, x10, x11, x12, x13, x14, x15, rfl, h0, h1, h2, h3, h4, h5, h6, h7, h8, h9, h10, h11, h12, h13, h14, h15⟩
theorem own : ownKnob Tryz.prog.godebug = none := by kernel_rfl
/-- The rules of a node stay as they are. -/
structure Ruled (f : FS) (a t i n d : Int) : Prop where
  is : f.s.me = a ∧ f.s.tmo = t ∧ f.s.ign = i ∧ f.need = n ∧ f.drift = d
theorem ruled_hear {f : FS} {a t i n d : Int} (h : f.s.me = a ∧ f.s.tmo = t ∧ f.s.ign = i ∧ f.need = n ∧ f.drift = d) (r x q u hp lo : Int) : (hearFS f r x q u hp lo).s.me = a ∧ (hearFS f r x q u hp lo).s.tmo = t ∧ (hearFS f r x q u hp lo).s.ign = i ∧ (hearFS f r x q u hp lo).need = n ∧ (hearFS f r x q u hp lo).drift = d := by
  obtain ⟨e1, e2, e3⟩ := hear_rules f.s r x q
  unfold hearFS moveF
  split
  · exact h
  · split
    · exact ⟨e1.trans h.1, e2.trans h.2.1, e3.trans h.2.2.1, h.2.2.2.1, h.2.2.2.2⟩
    · exact ⟨e1.trans h.1, e2.trans h.2.1, e3.trans h.2.2.1, h.2.2.2.1, h.2.2.2.2⟩
theorem ruled_beat {f : FS} {a t i n d : Int} (h : f.s.me = a ∧ f.s.tmo = t ∧ f.s.ign = i ∧ f.need = n ∧ f.drift = d) : (beatF f).s.me = a ∧ (beatF f).s.tmo = t ∧ (beatF f).s.ign = i ∧ (beatF f).need = n ∧ (beatF f).drift = d := by
  obtain ⟨e1, e2, e3⟩ := beat_rules f.s
  unfold beatF
  split
  · exact ⟨e1.trans h.1, e2.trans h.2.1, e3.trans h.2.2.1, h.2.2.2.1, h.2.2.2.2⟩
  · exact ⟨e1.trans h.1, e2.trans h.2.1, e3.trans h.2.2.1, h.2.2.2.1, h.2.2.2.2⟩
theorem ruled_says {f f' : FS} {lo : Int} {W : W6} {ok : Bool} {a t i n d : Int} (hs : Says f lo W ok f') (h : f.s.me = a ∧ f.s.tmo = t ∧ f.s.ign = i ∧ f.need = n ∧ f.drift = d) : f'.s.me = a ∧ f'.s.tmo = t ∧ f'.s.ign = i ∧ f'.need = n ∧ f'.drift = d := by
  obtain ⟨e1, e2, e3⟩ := issue_rules f.s
  rcases hs with ⟨_, _, _, rfl⟩ | ⟨_, _, _, _, rfl⟩ | ⟨_, _, _, _, _, rfl⟩ | ⟨_, _, _, _, _, _, rfl⟩ | ⟨_, _, _, _, _, _, rfl⟩
  · exact h
  · exact ⟨e1.trans h.1, e2.trans h.2.1, e3.trans h.2.2.1, h.2.2.2.1, h.2.2.2.2⟩
  · exact h
  · exact h
  · exact h
theorem boot_as_new {f : FS} {a t i n d : Int} (h : f.s.me = a ∧ f.s.tmo = t ∧ f.s.ign = i ∧ f.need = n ∧ f.drift = d) (x : Int) : bootF f x = newF a t i n d x := by
  obtain ⟨rfl, rfl, rfl, rfl, rfl⟩ := h
  rfl
theorem fgood_rules {me tmo ign need drift : Int} (h : fgoodB me tmo ign need drift = true) : frulesB tmo ign need drift = true := by
  unfold fgoodB at h
  simp only [Bool.and_eq_true] at h
  obtain ⟨h1, h2⟩ := h
  unfold frulesB
  rw [h2, show rulesB tmo ign = true from decide_eq_true (by have := (good_iff _ _ _).1 h1; omega)]
  rfl
set_option linter.unusedSimpArgs false in
set_option maxHeartbeats 16000000 in
set_option maxRecDepth 100000 in
theorem walk (a0 : Int) (s1_0 s1_1 s1_2 s1_3 : Int) (A2 : Option Addr) (n2 c2 : Nat) (f2 : Nat → List Value) (w : World) (w0 : (Lit.int .i64 a0).wf = true) (w1_0 : (Lit.int .i64 s1_0).wf = true) (w1_1 : (Lit.int .i64 s1_1).wf = true) (w1_2 : (Lit.int .i64 s1_2).wf = true) (w1_3 : (Lit.int .i64 s1_3).wf = true) (w2 : FlatRow w [.int .i64, .int .i64, .int .i64, .int .i64, .int .i64, .int .i64, .int .u16, .int .u16, .int .i64, .int .i64, .int .i64, .int .i64, .int .i64, .int .i64, .int .i64, .int .i64] A2 n2 c2 f2) :
    Calls Tryz.prog 3 #[.int .i64 a0, .agg #[.int .i64 s1_0, .int .i64 s1_1, .int .i64 s1_2, .int .i64 s1_3], .slice A2 n2 c2] w fun e w' => e = .returned (.bool true) ∧ Below w.heap.size w w' := by
  have HB0 := Lib.hid (Box.start w 23 #[.int .i64 s1_0, .int .i64 s1_1, .int .i64 s1_2, .int .i64 s1_3])
  by_cases h300 : 200 < n2
  · as_aux_lemma =>
      have d3 : decide ((200 : Int) < (n2 : Int)) = true := decide_eq_true (by omega)
      go_enter Tryz.func3, Tryz.ntmps3
      go_wp2_with (go_at_call 4; refine (alive_yes _).mono ?_; rintro e w1 ⟨rfl, hb1⟩)
      go_ret
      exact ⟨rfl, (HB0.out.next hb1).below⟩
  have d3 : decide ((200 : Int) < (n2 : Int)) = false := decide_eq_false (by omega)
  have hcap := w2.cap_le
  have hmx := w2.max
  unfold maxLen at hmx
  have R := Lib.hid w2
  clear w2
  have hbn := fun W => fbeat_nil W 1
  unfold wordV noW at hbn
  try simp only [] at hbn
  have hrg := fun W => rfgood_any W a0 s1_0 s1_1 s1_2 s1_3
  cases hgd : fgoodB a0 s1_0 s1_1 s1_2 s1_3 with
  | false =>
    as_aux_lemma =>
      have hnew := fun W => fnew_no W a0 s1_0 s1_1 s1_2 s1_3 hgd
      simp only [hgd] at hrg
      clear hgd
      go_enter Tryz.func3, Tryz.ntmps3
      go_wp2_with (first
        | (go_at_call 4; refine (alive_yes _).mono ?_; rintro e w1 ⟨rfl, hb1⟩; replace HB0 := Lib.hid (HB0.out.next hb1); have x0 := HB0.out.holds.cell 0; have x1 := HB0.out.holds.cell 1; have x2 := HB0.out.holds.cell 2; have x3 := HB0.out.holds.cell 3; clear hb1)
        | (go_at_call 6; refine (lrules_any _ _ _ _ _).mono ?_; rintro e w2 ⟨rfl, hb2⟩; replace HB0 := Lib.hid (HB0.out.next hb2); clear hb2 x0 x1 x2 x3)
        | (go_at_call 5; refine (hnew _).mono ?_; rintro e w3 ⟨rfl, hb3⟩; replace HB0 := Lib.hid (HB0.out.next hb3); clear hb3)
        | (go_at_call 7; refine (fboot_nil _ _).mono ?_; rintro e wx ⟨rfl, hwx⟩; subst wx)
        | (go_at_call 8; refine (hbn _).mono ?_; rintro e w4 ⟨rfl, hb4⟩; replace HB0 := Lib.hid ((HB0.out.next hb4).alloc (.cells #[.int .i64 0, .int .i64 0, .int .u16 0, .int .u16 0, .int .i64 0, .int .i64 0] 38)); clear hb4)
        | (go_at_call 9; refine (ftime_nil _ _).mono ?_; rintro e wx ⟨rfl, hwx⟩; subst wx)
        | (go_at_call 10; refine (fhear_nil _ _ _ _ _ _ _ _).mono ?_; rintro e w5 ⟨rfl, hb5⟩; replace HB0 := Lib.hid (HB0.out.next hb5); have x0 := HB0.out.holds.cell 0; have x1 := HB0.out.holds.cell 1; have x2 := HB0.out.holds.cell 2; have x3 := HB0.out.holds.cell 3; clear hb5)
        | (go_at_call 11; refine (synced_nil _).mono ?_; rintro e wx ⟨rfl, nq, rfl⟩; replace HB0 := Lib.hid (HB0.out.drewN nq); have x0 := HB0.out.holds.cell 0; have x1 := HB0.out.holds.cell 1; have x2 := HB0.out.holds.cell 2; have x3 := HB0.out.holds.cell 3; skip)
        | (go_at_call 12; refine (entries_nil _).mono ?_; rintro e wx ⟨rfl, hwx⟩; subst wx)
        | (go_at_call 13; refine (hrg _).mono ?_; rintro e wx ⟨rfl, hwx⟩; subst wx))
      go_ret
      exact ⟨rfl, HB0.out.below⟩
  | true =>
    have hnew := fun W => fnew_yes W a0 s1_0 s1_1 s1_2 s1_3 hgd
    have HI0 := Lib.hid (FInv.new hgd (x := 0) ⟨by decide, by decide⟩)
    have hru := fun W => frules_any W s1_0 s1_1 s1_2 s1_3
    simp only [fgood_rules hgd] at hru
    simp only [hgd] at hrg
    have HRn := Lib.hid (fun W x => rfnew_any W a0 s1_0 s1_1 s1_2 s1_3 x)
    clear hgd
    go_enter Tryz.func3, Tryz.ntmps3
    go_wp2_with (first
      | (go_at_call 4; refine (alive_yes _).mono ?_; rintro e w1 ⟨rfl, hb1⟩; replace HB0 := Lib.hid (HB0.out.next hb1); have x0 := HB0.out.holds.cell 0; have x1 := HB0.out.holds.cell 1; have x2 := HB0.out.holds.cell 2; have x3 := HB0.out.holds.cell 3; clear hb1)
      | (go_at_call 5; refine (hnew _).mono ?_; rintro e w3 ⟨gf, g, b, rfl, hF3, hb3⟩; have HL0 := Lib.hid (Lf.start HB0.out hF3 HI0.out hb3); clear hF3 hb3 hnew)
      | (go_at_call 7; refine (fboot_nil _ _).mono ?_; rintro e wx ⟨rfl, hwx⟩; subst wx)
      | (go_at_call 8; refine (hbn _).mono ?_; rintro e w4 ⟨rfl, hb4⟩; replace HL0 := Lib.hid ((HL0.out.below hb4).alloc (.cells #[.int .i64 0, .int .i64 0, .int .u16 0, .int .u16 0, .int .i64 0, .int .i64 0] 38)); clear hb4)
      | (go_at_call 9; refine (ftime_nil _ _).mono ?_; rintro e wx ⟨rfl, hwx⟩; subst wx)
      | (go_at_call 10; refine (fhear_nil _ _ _ _ _ _ _ _).mono ?_; rintro e w5 ⟨rfl, hb5⟩; replace HL0 := Lib.hid (HL0.out.below hb5); have x0 := HL0.out.box.holds.cell 0; have x1 := HL0.out.box.holds.cell 1; have x2 := HL0.out.box.holds.cell 2; have x3 := HL0.out.box.holds.cell 3; clear hb5)
      | (go_at_call 11; refine (synced_nil _).mono ?_; rintro e wx ⟨rfl, nq, rfl⟩; replace HL0 := Lib.hid (HL0.out.drewN nq); have x0 := HL0.out.box.holds.cell 0; have x1 := HL0.out.box.holds.cell 1; have x2 := HL0.out.box.holds.cell 2; have x3 := HL0.out.box.holds.cell 3; skip)
      | (go_at_call 12; refine (entries_nil _).mono ?_; rintro e wx ⟨rfl, hwx⟩; subst wx)
      | (go_at_call 13; refine (hrg _).mono ?_; rintro e wx ⟨rfl, hwx⟩; subst wx)
      | (go_at_call 14; refine (hru _).mono ?_; rintro e w7 ⟨rfl, hb7⟩; replace HL0 := Lib.hid (HL0.out.below hb7); have x0 := HL0.out.box.holds.cell 0; have x1 := HL0.out.box.holds.cell 1; have x2 := HL0.out.box.holds.cell 2; have x3 := HL0.out.box.holds.cell 3; clear hb7)
      | (go_at_call 6; refine (lrules_any _ _ _ _ _).mono ?_; rintro e w2 ⟨rfl, hb2⟩; first | (replace HL0 := Lib.hid (HL0.out.below hb2); clear hb2) | (replace HB0 := Lib.hid (HB0.out.next hb2); clear hb2 x0 x1 x2 x3))
      | (go_at_call 15; refine (HRn.out _ _).mono ?_; rintro e w8 ⟨gd, ge, rfl, hD, hge, hb8⟩; have HD := Lib.hid hD; have hgw := HL0.out.law.size; have hbl := HL0.out.box.lt; have hfl := HL0.out.fo.lt; have hnl := HL0.out.fo.node.lt; have HL1 := Lib.hid (HL0.out.below hb8); have hdl := hD.lt; clear hD hb8 x0 x1 x2 x3))
    clear hrg hru hbn
    go_loopw [16, 112] (fun mp i wr => ∃ (k b n gd ge : Nat) (A : Option Addr) (c : Nat) (f : FS), k ≤ n2 ∧ i = .int .i64 k ∧ mp = .pointer (some ⟨gd, 0, none⟩) ∧ n ≤ k ∧ (f.s.me = a0 ∧ f.s.tmo = s1_0 ∧ f.s.ign = s1_1 ∧ f.need = s1_2 ∧ f.drift = s1_3) ∧ (gf ≤ gd ∧ g ≤ gd ∧ w.heap.size + 1 ≤ ge) ∧ Lf w wr 23 #[.int .i64 s1_0, .int .i64 s1_1, .int .i64 s1_2, .int .i64 s1_3] gf g b n f ∧ Df wr gd ge A c f) (fun _ i _ => n2 - (intOf i).toNat)
    case atStart => exact ⟨0, b, 0, gd, ge, _, _, _, by omega, rfl, rfl, by omega, ⟨rfl, rfl, rfl, rfl, rfl⟩, ⟨by omega, by omega, by omega⟩, HL1.out, HD.out⟩
    case round =>
      obtain ⟨k, b, n, gd, ge, A, c, f, hk, rfl, rfl, hn, hme, ⟨hg1, hg2, hg3⟩, hL, hD⟩ := hrel
      have HL := Lib.hid hL
      have HDn := Lib.hid hD
      clear hL hD HL0 HL1 HD
      by_cases hlt : k < n2
      · skip
        obtain ⟨a, off, rfl, hb', hc⟩ := (R.out.below HL.out.law).at 16 rfl hlt
        obtain ⟨s0, s1, s2, s3, s4, s5, s6, s7, s8, s9, s10, s11, s12, s13, s14, s15, hf, hw0, hw1, hw2, hw3, hw4, hw5, hw6, hw7, hw8, hw9, hw10, hw11, hw12, hw13, hw14, hw15⟩ := cells2 (R.out.fit k hlt)
        have q0 : wr.cell? ⟨a, off + k * 16, none⟩ = some (.int .i64 s0) := hc 0 _ (by rw [hf]; rfl)
        have q1 : wr.cell? ⟨a, off + k * 16 + 1, none⟩ = some (.int .i64 s1) := hc 1 _ (by rw [hf]; rfl)
        have q2 : wr.cell? ⟨a, off + k * 16 + 2, none⟩ = some (.int .i64 s2) := hc 2 _ (by rw [hf]; rfl)
        have q3 : wr.cell? ⟨a, off + k * 16 + 3, none⟩ = some (.int .i64 s3) := hc 3 _ (by rw [hf]; rfl)
        have q4 : wr.cell? ⟨a, off + k * 16 + 4, none⟩ = some (.int .i64 s4) := hc 4 _ (by rw [hf]; rfl)
        have q5 : wr.cell? ⟨a, off + k * 16 + 5, none⟩ = some (.int .i64 s5) := hc 5 _ (by rw [hf]; rfl)
        have q6 : wr.cell? ⟨a, off + k * 16 + 6, none⟩ = some (.int .u16 s6) := hc 6 _ (by rw [hf]; rfl)
        have q7 : wr.cell? ⟨a, off + k * 16 + 7, none⟩ = some (.int .u16 s7) := hc 7 _ (by rw [hf]; rfl)
        have q8 : wr.cell? ⟨a, off + k * 16 + 8, none⟩ = some (.int .i64 s8) := hc 8 _ (by rw [hf]; rfl)
        have q9 : wr.cell? ⟨a, off + k * 16 + 9, none⟩ = some (.int .i64 s9) := hc 9 _ (by rw [hf]; rfl)
        have q10 : wr.cell? ⟨a, off + k * 16 + 10, none⟩ = some (.int .i64 s10) := hc 10 _ (by rw [hf]; rfl)
        have q11 : wr.cell? ⟨a, off + k * 16 + 11, none⟩ = some (.int .i64 s11) := hc 11 _ (by rw [hf]; rfl)
        have q12 : wr.cell? ⟨a, off + k * 16 + 12, none⟩ = some (.int .i64 s12) := hc 12 _ (by rw [hf]; rfl)
        have q13 : wr.cell? ⟨a, off + k * 16 + 13, none⟩ = some (.int .i64 s13) := hc 13 _ (by rw [hf]; rfl)
        have q14 : wr.cell? ⟨a, off + k * 16 + 14, none⟩ = some (.int .i64 s14) := hc 14 _ (by rw [hf]; rfl)
        have q15 : wr.cell? ⟨a, off + k * 16 + 15, none⟩ = some (.int .i64 s15) := hc 15 _ (by rw [hf]; rfl)
        have f6 := f16_wf hw6
        have f7 := f16_wf hw7
        have f5 := fits_wf hw5
        have fl := fits_wf hw1
        have ew := IntWalk.i64_in ((k : Int) + 1) (by omega)
        have HL1 := Lib.hid (HL.out.alloc (.cells #[.int .i64 s0, .int .i64 s1, .int .i64 s2, .int .i64 s3, .int .i64 s4, .int .i64 s5, .int .u16 s6, .int .u16 s7, .int .i64 s8, .int .i64 s9, .int .i64 s10, .int .i64 s11, .int .i64 s12, .int .i64 s13, .int .i64 s14, .int .i64 s15] 52))
        have HO := Lib.hid (Holds.new wr 52 #[.int .i64 s0, .int .i64 s1, .int .i64 s2, .int .i64 s3, .int .i64 s4, .int .i64 s5, .int .u16 s6, .int .u16 s7, .int .i64 s8, .int .i64 s9, .int .i64 s10, .int .i64 s11, .int .i64 s12, .int .i64 s13, .int .i64 s14, .int .i64 s15])
        clear hc hf hw0 hw1 hw2 hw3 hw4 hw5 hw6 hw7 hw8 hw9 hw10 hw11 hw12 hw13 hw14 hw15
        have HIf := Lib.hid HL.out.inv
        have HD1 := Lib.hid (HDn.out.alloc (.cells #[.int .i64 s0, .int .i64 s1, .int .i64 s2, .int .i64 s3, .int .i64 s4, .int .i64 s5, .int .u16 s6, .int .u16 s7, .int .i64 s8, .int .i64 s9, .int .i64 s10, .int .i64 s11, .int .i64 s12, .int .i64 s13, .int .i64 s14, .int .i64 s15] 52))
        have HMe := Lib.hid hme
        have hkind : (s0 = 0 ∨ s0 = 1 ∨ s0 = 2) ∨ (s0 = 3 ∨ s0 = 4) ∨ s0 = 5 ∨ s0 = 6 ∨ ((s0 == 0) = false ∧ (s0 == 1) = false ∧ (s0 == 2) = false ∧ (s0 == 3) = false ∧ (s0 == 4) = false ∧ (s0 == 5) = false ∧ (s0 == 6) = false) := by
          by_cases k0 : s0 = 0 <;> by_cases k1 : s0 = 1 <;> by_cases k2 : s0 = 2 <;> by_cases k3 : s0 = 3 <;> by_cases k4 : s0 = 4 <;> by_cases k5 : s0 = 5 <;> by_cases k6 : s0 = 6 <;> simp_all
        have hlf := HL.out.fo.lt
        have hlg := HL.out.fo.node.lt
        have hlw := HL.out.box.lt
        clear hme
        go_upto_block 2 with fail
        go_cut [16, 19, 20, 21, 22, 23, 24, 25, 26, 27, 112] from 112 to 286 (fun mp _ _ _ _ _ _ _ _ _ i wx => ∃ (bz nz gdz gez : Nat) (Az : Option Addr) (cz : Nat) (F : FS), i = .int .i64 k ∧ mp = .pointer (some ⟨gdz, 0, none⟩) ∧ nz ≤ k + 1 ∧ (F.s.me = a0 ∧ F.s.tmo = s1_0 ∧ F.s.ign = s1_1 ∧ F.need = s1_2 ∧ F.drift = s1_3) ∧ (gf ≤ gdz ∧ g ≤ gdz ∧ w.heap.size + 1 ≤ gez) ∧ Lf w wx 23 #[.int .i64 s1_0, .int .i64 s1_1, .int .i64 s1_2, .int .i64 s1_3] gf g bz nz F ∧ Df wx gdz gez Az cz F)
        case first =>
          rcases hkind with hkind | hkind | rfl | rfl | ⟨k0, k1, k2, k3, k4, k5, k6⟩
          · as_aux_lemma =>
              have hhr := fun W (h : Lf w W 23 #[.int .i64 s1_0, .int .i64 s1_1, .int .i64 s1_2, .int .i64 s1_3] gf g b n f) => fhear_any W _ gf g b n f h.fo h.inv (by omega) s3 s5 s6 s7 s8 s9 s1 f5 f6 f7
              unfold FHeard at hhr
              have hrh := fun W A' c' (h : Df W gd ge A' c' f) => rfhear_any W gd ge A' c' f h HIf.out s2 s3 s4 s5 s6 s7 s8 s9 s10 s11 s12 s13 s14 s15 s1 f6 f7
              have hIF := HIf.out.hear s5 s6 s7 s9 s8 s1 f6 f7
              have hmF := ruled_hear HMe.out s5 s6 s7 s9 s8 s1
              obtain ⟨F, hF⟩ : ∃ F, hearFS f s5 s6 s7 s9 s8 s1 = F := ⟨_, rfl⟩
              obtain ⟨V, hV⟩ : ∃ V, hearFV f s5 s6 s7 s9 s8 s1 = V := ⟨_, rfl⟩
              rw [hF] at hIF hmF
              simp only [hF, hV] at hhr hrh
              have HHr := Lib.hid hhr
              have HRh := Lib.hid hrh
              have HIF := Lib.hid hIF
              have HMF := Lib.hid hmF
              have HLc := Lib.hid HL1.out.drew
              have HDc := Lib.hid (HD1.out.drewN 1)
              have HOc := Lib.hid (HO.out.drewN 1)
              have dv : (V != V) = false := by simp
              clear hF hV hhr hrh hIF hmF
              rcases hkind with rfl | rfl | rfl <;>
              · as_aux_lemma =>
                  go_upto_region 25 with fail
                  refine region_turns (fun (w' : World) => w'.cell? ⟨wr.heap.size, 1, none⟩ = some (.int .i64 s1) ∧ w'.cell? ⟨wr.heap.size, 2, none⟩ = some (.int .i64 s2) ∧ w'.cell? ⟨wr.heap.size, 3, none⟩ = some (.int .i64 s3) ∧ w'.cell? ⟨wr.heap.size, 4, none⟩ = some (.int .i64 s4) ∧ w'.cell? ⟨wr.heap.size, 5, none⟩ = some (.int .i64 s5) ∧ w'.cell? ⟨wr.heap.size, 6, none⟩ = some (.int .u16 s6) ∧ w'.cell? ⟨wr.heap.size, 7, none⟩ = some (.int .u16 s7) ∧ w'.cell? ⟨wr.heap.size, 8, none⟩ = some (.int .i64 s8) ∧ w'.cell? ⟨wr.heap.size, 9, none⟩ = some (.int .i64 s9) ∧ w'.cell? ⟨wr.heap.size, 10, none⟩ = some (.int .i64 s10) ∧ w'.cell? ⟨wr.heap.size, 11, none⟩ = some (.int .i64 s11) ∧ w'.cell? ⟨wr.heap.size, 12, none⟩ = some (.int .i64 s12) ∧ w'.cell? ⟨wr.heap.size, 13, none⟩ = some (.int .i64 s13) ∧ w'.cell? ⟨wr.heap.size, 14, none⟩ = some (.int .i64 s14) ∧ w'.cell? ⟨wr.heap.size, 15, none⟩ = some (.int .i64 s15)) (fun j => decide (14 ≤ j)) (by kernel_rfl) (⟨HOc.out.cell 1, HOc.out.cell 2, HOc.out.cell 3, HOc.out.cell 4, HOc.out.cell 5, HOc.out.cell 6, HOc.out.cell 7, HOc.out.cell 8, HOc.out.cell 9, HOc.out.cell 10, HOc.out.cell 11, HOc.out.cell 12, HOc.out.cell 13, HOc.out.cell 14, HOc.out.cell 15⟩) (fun hS => ?_)
                  refine Turns.take hS 0 _ rfl (by kernel_rfl) (by kernel_rfl) (by kernel_rfl) (by kernel_rfl) (fun _ _ _ h => h) (by rfl) (fun w' hS' => by (try dsimp only at hS'); go_split_ands; go_simp; (try with_reducible rfl)) ?_
                  simp only [Act.put, List.getElem_toArray, List.getElem_cons_succ, List.getElem_cons_zero, List.setIfInBounds_toArray, List.set_cons_zero, List.set_cons_succ]
                  refine Turns.take hS 1 _ rfl (by kernel_rfl) (by kernel_rfl) (by kernel_rfl) (by kernel_rfl) (fun _ _ _ h => h) (by rfl) (fun w' hS' => by (try dsimp only at hS'); go_split_ands; go_simp; (try with_reducible rfl)) ?_
                  simp only [Act.put, List.getElem_toArray, List.getElem_cons_succ, List.getElem_cons_zero, List.setIfInBounds_toArray, List.set_cons_zero, List.set_cons_succ]
                  refine Turns.take hS 2 _ rfl (by kernel_rfl) (by kernel_rfl) (by kernel_rfl) (by kernel_rfl) (fun _ _ _ h => h) (by rfl) (fun w' hS' => by (try dsimp only at hS'); go_split_ands; go_simp; (try with_reducible rfl)) ?_
                  simp only [Act.put, List.getElem_toArray, List.getElem_cons_succ, List.getElem_cons_zero, List.setIfInBounds_toArray, List.set_cons_zero, List.set_cons_succ]
                  refine Turns.take hS 4 _ rfl (by kernel_rfl) (by kernel_rfl) (by kernel_rfl) (by kernel_rfl) (fun _ _ _ h => h) (by rfl) (fun w' hS' => by (try dsimp only at hS'); go_split_ands; go_simp; (try with_reducible rfl)) ?_
                  simp only [Act.put, List.getElem_toArray, List.getElem_cons_succ, List.getElem_cons_zero, List.setIfInBounds_toArray, List.set_cons_zero, List.set_cons_succ]
                  refine Turns.take hS 5 _ rfl (by kernel_rfl) (by kernel_rfl) (by kernel_rfl) (by kernel_rfl) (fun _ _ _ h => h) (by rfl) (fun w' hS' => by (try dsimp only at hS'); go_split_ands; go_simp; (try with_reducible rfl)) ?_
                  simp only [Act.put, List.getElem_toArray, List.getElem_cons_succ, List.getElem_cons_zero, List.setIfInBounds_toArray, List.set_cons_zero, List.set_cons_succ]
                  refine Turns.take hS 7 _ rfl (by kernel_rfl) (by kernel_rfl) (by kernel_rfl) (by kernel_rfl) (fun _ _ _ h => h) (by rfl) (fun w' hS' => by (try dsimp only at hS'); go_split_ands; go_simp; (try with_reducible rfl)) ?_
                  simp only [Act.put, List.getElem_toArray, List.getElem_cons_succ, List.getElem_cons_zero, List.setIfInBounds_toArray, List.set_cons_zero, List.set_cons_succ]
                  refine Turns.take hS 8 _ rfl (by kernel_rfl) (by kernel_rfl) (by kernel_rfl) (by kernel_rfl) (fun _ _ _ h => h) (by rfl) (fun w' hS' => by (try dsimp only at hS'); go_split_ands; go_simp; (try with_reducible rfl)) ?_
                  simp only [Act.put, List.getElem_toArray, List.getElem_cons_succ, List.getElem_cons_zero, List.setIfInBounds_toArray, List.set_cons_zero, List.set_cons_succ]
                  refine Turns.take hS 9 _ rfl (by kernel_rfl) (by kernel_rfl) (by kernel_rfl) (by kernel_rfl) (fun _ _ _ h => h) (by rfl) (fun w' hS' => by (try dsimp only at hS'); go_split_ands; go_simp; (try with_reducible rfl)) ?_
                  simp only [Act.put, List.getElem_toArray, List.getElem_cons_succ, List.getElem_cons_zero, List.setIfInBounds_toArray, List.set_cons_zero, List.set_cons_succ]
                  refine Turns.take hS 10 _ rfl (by kernel_rfl) (by kernel_rfl) (by kernel_rfl) (by kernel_rfl) (fun _ _ _ h => h) (by rfl) (fun w' hS' => by (try dsimp only at hS'); go_split_ands; go_simp; (try with_reducible rfl)) ?_
                  simp only [Act.put, List.getElem_toArray, List.getElem_cons_succ, List.getElem_cons_zero, List.setIfInBounds_toArray, List.set_cons_zero, List.set_cons_succ]
                  refine Turns.take hS 11 _ rfl (by kernel_rfl) (by kernel_rfl) (by kernel_rfl) (by kernel_rfl) (fun _ _ _ h => h) (by rfl) (fun w' hS' => by (try dsimp only at hS'); go_split_ands; go_simp; (try with_reducible rfl)) ?_
                  simp only [Act.put, List.getElem_toArray, List.getElem_cons_succ, List.getElem_cons_zero, List.setIfInBounds_toArray, List.set_cons_zero, List.set_cons_succ]
                  refine Turns.next 3 rfl (by kernel_rfl) (by rfl) (fun K hK => ?_)
                  go_simp
                  go_at_call 16
                  refine (lsync_any _ _ _ _ _ _ _ _ _ _ _ _ _ _ _).mono ?_
                  rintro e u1 ⟨rfl, hb1⟩
                  replace HLc := Lib.hid (HLc.out.below hb1)
                  replace HDc := Lib.hid (HDc.out.below hb1)
                  replace HOc := Lib.hid (HOc.out.below hb1 HOc.out.lt)
                  clear hb1
                  refine hK.out _ _ (show (fun (w' : World) => w'.cell? ⟨wr.heap.size, 1, none⟩ = some (.int .i64 s1) ∧ w'.cell? ⟨wr.heap.size, 2, none⟩ = some (.int .i64 s2) ∧ w'.cell? ⟨wr.heap.size, 3, none⟩ = some (.int .i64 s3) ∧ w'.cell? ⟨wr.heap.size, 4, none⟩ = some (.int .i64 s4) ∧ w'.cell? ⟨wr.heap.size, 5, none⟩ = some (.int .i64 s5) ∧ w'.cell? ⟨wr.heap.size, 6, none⟩ = some (.int .u16 s6) ∧ w'.cell? ⟨wr.heap.size, 7, none⟩ = some (.int .u16 s7) ∧ w'.cell? ⟨wr.heap.size, 8, none⟩ = some (.int .i64 s8) ∧ w'.cell? ⟨wr.heap.size, 9, none⟩ = some (.int .i64 s9) ∧ w'.cell? ⟨wr.heap.size, 10, none⟩ = some (.int .i64 s10) ∧ w'.cell? ⟨wr.heap.size, 11, none⟩ = some (.int .i64 s11) ∧ w'.cell? ⟨wr.heap.size, 12, none⟩ = some (.int .i64 s12) ∧ w'.cell? ⟨wr.heap.size, 13, none⟩ = some (.int .i64 s13) ∧ w'.cell? ⟨wr.heap.size, 14, none⟩ = some (.int .i64 s14) ∧ w'.cell? ⟨wr.heap.size, 15, none⟩ = some (.int .i64 s15)) _ from ⟨HOc.out.cell 1, HOc.out.cell 2, HOc.out.cell 3, HOc.out.cell 4, HOc.out.cell 5, HOc.out.cell 6, HOc.out.cell 7, HOc.out.cell 8, HOc.out.cell 9, HOc.out.cell 10, HOc.out.cell 11, HOc.out.cell 12, HOc.out.cell 13, HOc.out.cell 14, HOc.out.cell 15⟩) ?_
                  clear hK K hS
                  have hS := (show (fun (w' : World) => w'.cell? ⟨wr.heap.size, 1, none⟩ = some (.int .i64 s1) ∧ w'.cell? ⟨wr.heap.size, 2, none⟩ = some (.int .i64 s2) ∧ w'.cell? ⟨wr.heap.size, 3, none⟩ = some (.int .i64 s3) ∧ w'.cell? ⟨wr.heap.size, 4, none⟩ = some (.int .i64 s4) ∧ w'.cell? ⟨wr.heap.size, 5, none⟩ = some (.int .i64 s5) ∧ w'.cell? ⟨wr.heap.size, 6, none⟩ = some (.int .u16 s6) ∧ w'.cell? ⟨wr.heap.size, 7, none⟩ = some (.int .u16 s7) ∧ w'.cell? ⟨wr.heap.size, 8, none⟩ = some (.int .i64 s8) ∧ w'.cell? ⟨wr.heap.size, 9, none⟩ = some (.int .i64 s9) ∧ w'.cell? ⟨wr.heap.size, 10, none⟩ = some (.int .i64 s10) ∧ w'.cell? ⟨wr.heap.size, 11, none⟩ = some (.int .i64 s11) ∧ w'.cell? ⟨wr.heap.size, 12, none⟩ = some (.int .i64 s12) ∧ w'.cell? ⟨wr.heap.size, 13, none⟩ = some (.int .i64 s13) ∧ w'.cell? ⟨wr.heap.size, 14, none⟩ = some (.int .i64 s14) ∧ w'.cell? ⟨wr.heap.size, 15, none⟩ = some (.int .i64 s15)) _ from ⟨HOc.out.cell 1, HOc.out.cell 2, HOc.out.cell 3, HOc.out.cell 4, HOc.out.cell 5, HOc.out.cell 6, HOc.out.cell 7, HOc.out.cell 8, HOc.out.cell 9, HOc.out.cell 10, HOc.out.cell 11, HOc.out.cell 12, HOc.out.cell 13, HOc.out.cell 14, HOc.out.cell 15⟩)
                  refine Turns.next 6 rfl (by kernel_rfl) (by rfl) (fun K hK => ?_)
                  go_simp
                  go_at_call 10
                  refine (HHr.out _ HLc.out).mono ?_
                  rintro e u2 ⟨rfl, hg4⟩
                  obtain ⟨bz, hL4, hc4⟩ := HLc.out.step hg4 HIF.out
                  replace HDc := Lib.hid (HDc.out.prog HLc.out hc4 hg1 hg2)
                  replace HOc := Lib.hid (HLc.out.other HOc.out (by constructor <;> decide) hc4)
                  replace HLc := Lib.hid hL4
                  clear hg4 hL4 hc4
                  refine hK.out _ _ (show (fun (w' : World) => w'.cell? ⟨wr.heap.size, 1, none⟩ = some (.int .i64 s1) ∧ w'.cell? ⟨wr.heap.size, 2, none⟩ = some (.int .i64 s2) ∧ w'.cell? ⟨wr.heap.size, 3, none⟩ = some (.int .i64 s3) ∧ w'.cell? ⟨wr.heap.size, 4, none⟩ = some (.int .i64 s4) ∧ w'.cell? ⟨wr.heap.size, 5, none⟩ = some (.int .i64 s5) ∧ w'.cell? ⟨wr.heap.size, 6, none⟩ = some (.int .u16 s6) ∧ w'.cell? ⟨wr.heap.size, 7, none⟩ = some (.int .u16 s7) ∧ w'.cell? ⟨wr.heap.size, 8, none⟩ = some (.int .i64 s8) ∧ w'.cell? ⟨wr.heap.size, 9, none⟩ = some (.int .i64 s9) ∧ w'.cell? ⟨wr.heap.size, 10, none⟩ = some (.int .i64 s10) ∧ w'.cell? ⟨wr.heap.size, 11, none⟩ = some (.int .i64 s11) ∧ w'.cell? ⟨wr.heap.size, 12, none⟩ = some (.int .i64 s12) ∧ w'.cell? ⟨wr.heap.size, 13, none⟩ = some (.int .i64 s13) ∧ w'.cell? ⟨wr.heap.size, 14, none⟩ = some (.int .i64 s14) ∧ w'.cell? ⟨wr.heap.size, 15, none⟩ = some (.int .i64 s15)) _ from ⟨HOc.out.cell 1, HOc.out.cell 2, HOc.out.cell 3, HOc.out.cell 4, HOc.out.cell 5, HOc.out.cell 6, HOc.out.cell 7, HOc.out.cell 8, HOc.out.cell 9, HOc.out.cell 10, HOc.out.cell 11, HOc.out.cell 12, HOc.out.cell 13, HOc.out.cell 14, HOc.out.cell 15⟩) ?_
                  clear hK K hS
                  have hS := (show (fun (w' : World) => w'.cell? ⟨wr.heap.size, 1, none⟩ = some (.int .i64 s1) ∧ w'.cell? ⟨wr.heap.size, 2, none⟩ = some (.int .i64 s2) ∧ w'.cell? ⟨wr.heap.size, 3, none⟩ = some (.int .i64 s3) ∧ w'.cell? ⟨wr.heap.size, 4, none⟩ = some (.int .i64 s4) ∧ w'.cell? ⟨wr.heap.size, 5, none⟩ = some (.int .i64 s5) ∧ w'.cell? ⟨wr.heap.size, 6, none⟩ = some (.int .u16 s6) ∧ w'.cell? ⟨wr.heap.size, 7, none⟩ = some (.int .u16 s7) ∧ w'.cell? ⟨wr.heap.size, 8, none⟩ = some (.int .i64 s8) ∧ w'.cell? ⟨wr.heap.size, 9, none⟩ = some (.int .i64 s9) ∧ w'.cell? ⟨wr.heap.size, 10, none⟩ = some (.int .i64 s10) ∧ w'.cell? ⟨wr.heap.size, 11, none⟩ = some (.int .i64 s11) ∧ w'.cell? ⟨wr.heap.size, 12, none⟩ = some (.int .i64 s12) ∧ w'.cell? ⟨wr.heap.size, 13, none⟩ = some (.int .i64 s13) ∧ w'.cell? ⟨wr.heap.size, 14, none⟩ = some (.int .i64 s14) ∧ w'.cell? ⟨wr.heap.size, 15, none⟩ = some (.int .i64 s15)) _ from ⟨HOc.out.cell 1, HOc.out.cell 2, HOc.out.cell 3, HOc.out.cell 4, HOc.out.cell 5, HOc.out.cell 6, HOc.out.cell 7, HOc.out.cell 8, HOc.out.cell 9, HOc.out.cell 10, HOc.out.cell 11, HOc.out.cell 12, HOc.out.cell 13, HOc.out.cell 14, HOc.out.cell 15⟩)
                  refine Turns.next 12 rfl (by kernel_rfl) (by rfl) (fun K hK => ?_)
                  go_simp
                  go_at_call 17
                  refine (HRh.out _ _ _ HDc.out).mono ?_
                  rintro e u3 ⟨rfl, Az, cz, hD5, hc5⟩
                  replace HLc := Lib.hid (HLc.out.doc HDc.out hc5 hg3)
                  replace HOc := Lib.hid (doc_other HDc.out hc5 HOc.out (by constructor <;> decide))
                  replace HDc := Lib.hid hD5
                  clear hD5 hc5
                  refine hK.out _ _ (show (fun (w' : World) => w'.cell? ⟨wr.heap.size, 1, none⟩ = some (.int .i64 s1) ∧ w'.cell? ⟨wr.heap.size, 2, none⟩ = some (.int .i64 s2) ∧ w'.cell? ⟨wr.heap.size, 3, none⟩ = some (.int .i64 s3) ∧ w'.cell? ⟨wr.heap.size, 4, none⟩ = some (.int .i64 s4) ∧ w'.cell? ⟨wr.heap.size, 5, none⟩ = some (.int .i64 s5) ∧ w'.cell? ⟨wr.heap.size, 6, none⟩ = some (.int .u16 s6) ∧ w'.cell? ⟨wr.heap.size, 7, none⟩ = some (.int .u16 s7) ∧ w'.cell? ⟨wr.heap.size, 8, none⟩ = some (.int .i64 s8) ∧ w'.cell? ⟨wr.heap.size, 9, none⟩ = some (.int .i64 s9) ∧ w'.cell? ⟨wr.heap.size, 10, none⟩ = some (.int .i64 s10) ∧ w'.cell? ⟨wr.heap.size, 11, none⟩ = some (.int .i64 s11) ∧ w'.cell? ⟨wr.heap.size, 12, none⟩ = some (.int .i64 s12) ∧ w'.cell? ⟨wr.heap.size, 13, none⟩ = some (.int .i64 s13) ∧ w'.cell? ⟨wr.heap.size, 14, none⟩ = some (.int .i64 s14) ∧ w'.cell? ⟨wr.heap.size, 15, none⟩ = some (.int .i64 s15)) _ from ⟨HOc.out.cell 1, HOc.out.cell 2, HOc.out.cell 3, HOc.out.cell 4, HOc.out.cell 5, HOc.out.cell 6, HOc.out.cell 7, HOc.out.cell 8, HOc.out.cell 9, HOc.out.cell 10, HOc.out.cell 11, HOc.out.cell 12, HOc.out.cell 13, HOc.out.cell 14, HOc.out.cell 15⟩) ?_
                  clear hK K hS
                  have hS := (show (fun (w' : World) => w'.cell? ⟨wr.heap.size, 1, none⟩ = some (.int .i64 s1) ∧ w'.cell? ⟨wr.heap.size, 2, none⟩ = some (.int .i64 s2) ∧ w'.cell? ⟨wr.heap.size, 3, none⟩ = some (.int .i64 s3) ∧ w'.cell? ⟨wr.heap.size, 4, none⟩ = some (.int .i64 s4) ∧ w'.cell? ⟨wr.heap.size, 5, none⟩ = some (.int .i64 s5) ∧ w'.cell? ⟨wr.heap.size, 6, none⟩ = some (.int .u16 s6) ∧ w'.cell? ⟨wr.heap.size, 7, none⟩ = some (.int .u16 s7) ∧ w'.cell? ⟨wr.heap.size, 8, none⟩ = some (.int .i64 s8) ∧ w'.cell? ⟨wr.heap.size, 9, none⟩ = some (.int .i64 s9) ∧ w'.cell? ⟨wr.heap.size, 10, none⟩ = some (.int .i64 s10) ∧ w'.cell? ⟨wr.heap.size, 11, none⟩ = some (.int .i64 s11) ∧ w'.cell? ⟨wr.heap.size, 12, none⟩ = some (.int .i64 s12) ∧ w'.cell? ⟨wr.heap.size, 13, none⟩ = some (.int .i64 s13) ∧ w'.cell? ⟨wr.heap.size, 14, none⟩ = some (.int .i64 s14) ∧ w'.cell? ⟨wr.heap.size, 15, none⟩ = some (.int .i64 s15)) _ from ⟨HOc.out.cell 1, HOc.out.cell 2, HOc.out.cell 3, HOc.out.cell 4, HOc.out.cell 5, HOc.out.cell 6, HOc.out.cell 7, HOc.out.cell 8, HOc.out.cell 9, HOc.out.cell 10, HOc.out.cell 11, HOc.out.cell 12, HOc.out.cell 13, HOc.out.cell 14, HOc.out.cell 15⟩)
                  refine Turns.take hS 13 _ rfl (by kernel_rfl) (by kernel_rfl) (by kernel_rfl) (by kernel_rfl) (fun _ _ _ h => h) (by rfl) (fun w' hS' => by (try dsimp only at hS'); go_split_ands; go_simp; (try with_reducible rfl)) ?_
                  simp only [Act.put, List.getElem_toArray, List.getElem_cons_succ, List.getElem_cons_zero, List.setIfInBounds_toArray, List.set_cons_zero, List.set_cons_succ]
                  refine Turns.rest (late_done (by kernel_rfl)) ?_
                  refine any_tail 14 (by rfl) (by kernel_rfl) ?_
                  simp only [List.drop_succ_cons, List.drop_zero]
                  clear hS
                  go_wp2
                  go_meet
                  case rel => exact ⟨bz, n + 1, gd, ge, Az, cz, F, rfl, rfl, by omega, HMF.out, ⟨hg1, hg2, hg3⟩, HLc.out, HDc.out⟩
          · as_aux_lemma =>
              obtain ⟨⟨W1, W2, W3, W4, W5, W6⟩, ok, F, hs⟩ := says_is (beatF f) s1
              have hbt := fbeat_any _ _ gf g b n f HL1.out.fo HIf.out s1 fl _ ok F hs
              have HRb := Lib.hid (fun V A' c' (h : Df V gd ge A' c' f) => rfbeat_any V gd ge A' c' f h HIf.out s1 _ ok F hs)
              have HIF := Lib.hid (HIf.out.beat.says hs)
              have HMF := Lib.hid (ruled_says hs (ruled_beat HMe.out))
              have hok : (ok != (kindV ok == 1)) = false := by cases ok <;> rfl
              have hok2 : (ok == (kindV ok == 1)) = true := by cases ok <;> rfl
              obtain ⟨Kd, hKd⟩ : ∃ Kd, kindV ok = Kd := ⟨_, rfl⟩
              rw [hKd] at HRb hok hok2
              unfold wordV at hbt
              unfold plainC at HRb
              try simp only [] at hbt
              try simp only [] at HRb
              have y1 : (W1 == W1) = true := by simp
              have y2 : (W2 == W2) = true := by simp
              have y3 : (W3 == W3) = true := by simp
              have y4 : (W4 == W4) = true := by simp
              have y5 : (W5 == W5) = true := by simp
              have y6 : (W6 == W6) = true := by simp
              have o1 := HO.out.cell 1
              clear hs hKd
              rcases hkind with rfl | rfl <;>
              · as_aux_lemma =>
                  go_upto_region 31 with (first
                    | (go_at_call 8; refine hbt.mono ?_; rintro e w4 ⟨rfl, hg4⟩; obtain ⟨bz, hL4, hc4⟩ := HL1.out.step hg4 HIF.out; have HD4 := Lib.hid ((HD1.out.prog HL1.out hc4 hg1 hg2).alloc (.cells #[.int .i64 W1, .int .i64 W2, .int .u16 W3, .int .u16 W4, .int .i64 W5, .int .i64 W6] 38)); have HO4 := Lib.hid ((HL1.out.other HO.out (by constructor <;> decide) hc4).alloc (.cells #[.int .i64 W1, .int .i64 W2, .int .u16 W3, .int .u16 W4, .int .i64 W5, .int .i64 W6] 38)); have HL4 := Lib.hid (hL4.alloc (.cells #[.int .i64 W1, .int .i64 W2, .int .u16 W3, .int .u16 W4, .int .i64 W5, .int .i64 W6] 38)); have HX4 := Lib.hid (Holds.new w4 38 #[.int .i64 W1, .int .i64 W2, .int .u16 W3, .int .u16 W4, .int .i64 W5, .int .i64 W6]); have r1 := HO4.out.cell 1; clear hg4 hL4 hc4)
                    | (go_at_call 18; refine (HRb.out _ _ _ HD4.out).mono ?_; rintro e w5 ⟨rfl, Az, cz, hD5, hc5⟩; have HL5 := Lib.hid ((HL4.out.doc HD4.out hc5 hg3).alloc (.cells #[.int .i64 Kd, .int .i64 W1, .int .i64 0, .int .i64 W2, .int .u16 W3, .int .u16 W4, .int .i64 W5, .int .i64 W6, .int .i64 0, .int .i64 0, .int .i64 0, .int .i64 0, .int .i64 0, .int .i64 0] 50)); have HX5 := Lib.hid ((doc_other HD4.out hc5 HX4.out (by constructor <;> decide)).alloc (.cells #[.int .i64 Kd, .int .i64 W1, .int .i64 0, .int .i64 W2, .int .u16 W3, .int .u16 W4, .int .i64 W5, .int .i64 W6, .int .i64 0, .int .i64 0, .int .i64 0, .int .i64 0, .int .i64 0, .int .i64 0] 50)); have HD5 := Lib.hid (hD5.alloc (.cells #[.int .i64 Kd, .int .i64 W1, .int .i64 0, .int .i64 W2, .int .u16 W3, .int .u16 W4, .int .i64 W5, .int .i64 W6, .int .i64 0, .int .i64 0, .int .i64 0, .int .i64 0, .int .i64 0, .int .i64 0] 50)); have HP5 := Lib.hid (Holds.new w5 50 #[.int .i64 Kd, .int .i64 W1, .int .i64 0, .int .i64 W2, .int .u16 W3, .int .u16 W4, .int .i64 W5, .int .i64 W6, .int .i64 0, .int .i64 0, .int .i64 0, .int .i64 0, .int .i64 0, .int .i64 0]); clear hD5 hc5))
                  have HXd := Lib.hid (HX5.out.drewN 1)
                  have HPd := Lib.hid (HP5.out.drewN 1)
                  have HLd := Lib.hid HL5.out.drew
                  have HDd := Lib.hid (HD5.out.drewN 1)
                  refine region_turns (fun (w' : World) => w'.cell? ⟨w4.heap.size, 0, none⟩ = some (.int .i64 W1) ∧ w'.cell? ⟨w4.heap.size, 1, none⟩ = some (.int .i64 W2) ∧ w'.cell? ⟨w4.heap.size, 2, none⟩ = some (.int .u16 W3) ∧ w'.cell? ⟨w4.heap.size, 3, none⟩ = some (.int .u16 W4) ∧ w'.cell? ⟨w4.heap.size, 4, none⟩ = some (.int .i64 W5) ∧ w'.cell? ⟨w4.heap.size, 5, none⟩ = some (.int .i64 W6) ∧ w'.cell? ⟨w5.heap.size, 0, none⟩ = some (.int .i64 Kd) ∧ w'.cell? ⟨w5.heap.size, 1, none⟩ = some (.int .i64 W1) ∧ w'.cell? ⟨w5.heap.size, 2, none⟩ = some (.int .i64 0) ∧ w'.cell? ⟨w5.heap.size, 3, none⟩ = some (.int .i64 W2) ∧ w'.cell? ⟨w5.heap.size, 4, none⟩ = some (.int .u16 W3) ∧ w'.cell? ⟨w5.heap.size, 5, none⟩ = some (.int .u16 W4) ∧ w'.cell? ⟨w5.heap.size, 6, none⟩ = some (.int .i64 W5) ∧ w'.cell? ⟨w5.heap.size, 7, none⟩ = some (.int .i64 W6) ∧ w'.cell? ⟨w5.heap.size, 8, none⟩ = some (.int .i64 0) ∧ w'.cell? ⟨w5.heap.size, 9, none⟩ = some (.int .i64 0) ∧ w'.cell? ⟨w5.heap.size, 10, none⟩ = some (.int .i64 0) ∧ w'.cell? ⟨w5.heap.size, 11, none⟩ = some (.int .i64 0) ∧ w'.cell? ⟨w5.heap.size, 12, none⟩ = some (.int .i64 0) ∧ w'.cell? ⟨w5.heap.size, 13, none⟩ = some (.int .i64 0)) (fun j => decide (11 ≤ j)) (by kernel_rfl) (⟨HXd.out.cell 0, HXd.out.cell 1, HXd.out.cell 2, HXd.out.cell 3, HXd.out.cell 4, HXd.out.cell 5, HPd.out.cell 0, HPd.out.cell 1, HPd.out.cell 2, HPd.out.cell 3, HPd.out.cell 4, HPd.out.cell 5, HPd.out.cell 6, HPd.out.cell 7, HPd.out.cell 8, HPd.out.cell 9, HPd.out.cell 10, HPd.out.cell 11, HPd.out.cell 12, HPd.out.cell 13⟩) (fun hS => ?_)
                  refine Turns.take hS 0 _ rfl (by kernel_rfl) (by kernel_rfl) (by kernel_rfl) (by kernel_rfl) (fun _ _ _ h => h) (by rfl) (fun w' hS' => by (try dsimp only at hS'); go_split_ands; go_simp; (try with_reducible rfl)) ?_
                  simp only [Act.put, List.getElem_toArray, List.getElem_cons_succ, List.getElem_cons_zero, List.setIfInBounds_toArray, List.set_cons_zero, List.set_cons_succ]
                  refine Turns.take hS 1 _ rfl (by kernel_rfl) (by kernel_rfl) (by kernel_rfl) (by kernel_rfl) (fun _ _ _ h => h) (by rfl) (fun w' hS' => by (try dsimp only at hS'); go_split_ands; go_simp; (try with_reducible rfl)) ?_
                  simp only [Act.put, List.getElem_toArray, List.getElem_cons_succ, List.getElem_cons_zero, List.setIfInBounds_toArray, List.set_cons_zero, List.set_cons_succ]
                  refine Turns.take hS 2 _ rfl (by kernel_rfl) (by kernel_rfl) (by kernel_rfl) (by kernel_rfl) (fun _ _ _ h => h) (by rfl) (fun w' hS' => by (try dsimp only at hS'); go_split_ands; go_simp; (try with_reducible rfl)) ?_
                  simp only [Act.put, List.getElem_toArray, List.getElem_cons_succ, List.getElem_cons_zero, List.setIfInBounds_toArray, List.set_cons_zero, List.set_cons_succ]
                  refine Turns.take hS 3 _ rfl (by kernel_rfl) (by kernel_rfl) (by kernel_rfl) (by kernel_rfl) (fun _ _ _ h => h) (by rfl) (fun w' hS' => by (try dsimp only at hS'); go_split_ands; go_simp; (try with_reducible rfl)) ?_
                  simp only [Act.put, List.getElem_toArray, List.getElem_cons_succ, List.getElem_cons_zero, List.setIfInBounds_toArray, List.set_cons_zero, List.set_cons_succ]
                  refine Turns.take hS 4 _ rfl (by kernel_rfl) (by kernel_rfl) (by kernel_rfl) (by kernel_rfl) (fun _ _ _ h => h) (by rfl) (fun w' hS' => by (try dsimp only at hS'); go_split_ands; go_simp; (try with_reducible rfl)) ?_
                  simp only [Act.put, List.getElem_toArray, List.getElem_cons_succ, List.getElem_cons_zero, List.setIfInBounds_toArray, List.set_cons_zero, List.set_cons_succ]
                  refine Turns.take hS 5 _ rfl (by kernel_rfl) (by kernel_rfl) (by kernel_rfl) (by kernel_rfl) (fun _ _ _ h => h) (by rfl) (fun w' hS' => by (try dsimp only at hS'); go_split_ands; go_simp; (try with_reducible rfl)) ?_
                  simp only [Act.put, List.getElem_toArray, List.getElem_cons_succ, List.getElem_cons_zero, List.setIfInBounds_toArray, List.set_cons_zero, List.set_cons_succ]
                  refine Turns.take hS 6 _ rfl (by kernel_rfl) (by kernel_rfl) (by kernel_rfl) (by kernel_rfl) (fun _ _ _ h => h) (by rfl) (fun w' hS' => by (try dsimp only at hS'); go_split_ands; go_simp; (try with_reducible rfl)) ?_
                  simp only [Act.put, List.getElem_toArray, List.getElem_cons_succ, List.getElem_cons_zero, List.setIfInBounds_toArray, List.set_cons_zero, List.set_cons_succ]
                  refine Turns.take hS 7 _ rfl (by kernel_rfl) (by kernel_rfl) (by kernel_rfl) (by kernel_rfl) (fun _ _ _ h => h) (by rfl) (fun w' hS' => by (try dsimp only at hS'); go_split_ands; go_simp; (try with_reducible rfl)) ?_
                  simp only [Act.put, List.getElem_toArray, List.getElem_cons_succ, List.getElem_cons_zero, List.setIfInBounds_toArray, List.set_cons_zero, List.set_cons_succ]
                  refine Turns.next 8 rfl (by kernel_rfl) (by rfl) (fun K hK => ?_)
                  go_simp
                  go_at_call 16
                  refine (lsync_any _ _ _ _ _ _ _ _ _ _ _ _ _ _ _).mono ?_
                  rintro e u1 ⟨rfl, hb1⟩
                  have HXe := Lib.hid (HXd.out.below hb1 HXd.out.lt)
                  have HPe := Lib.hid (HPd.out.below hb1 HPd.out.lt)
                  have HLe := Lib.hid (HLd.out.below hb1)
                  have HDe := Lib.hid (HDd.out.below hb1)
                  clear hb1
                  refine hK.out _ _ (show (fun (w' : World) => w'.cell? ⟨w4.heap.size, 0, none⟩ = some (.int .i64 W1) ∧ w'.cell? ⟨w4.heap.size, 1, none⟩ = some (.int .i64 W2) ∧ w'.cell? ⟨w4.heap.size, 2, none⟩ = some (.int .u16 W3) ∧ w'.cell? ⟨w4.heap.size, 3, none⟩ = some (.int .u16 W4) ∧ w'.cell? ⟨w4.heap.size, 4, none⟩ = some (.int .i64 W5) ∧ w'.cell? ⟨w4.heap.size, 5, none⟩ = some (.int .i64 W6) ∧ w'.cell? ⟨w5.heap.size, 0, none⟩ = some (.int .i64 Kd) ∧ w'.cell? ⟨w5.heap.size, 1, none⟩ = some (.int .i64 W1) ∧ w'.cell? ⟨w5.heap.size, 2, none⟩ = some (.int .i64 0) ∧ w'.cell? ⟨w5.heap.size, 3, none⟩ = some (.int .i64 W2) ∧ w'.cell? ⟨w5.heap.size, 4, none⟩ = some (.int .u16 W3) ∧ w'.cell? ⟨w5.heap.size, 5, none⟩ = some (.int .u16 W4) ∧ w'.cell? ⟨w5.heap.size, 6, none⟩ = some (.int .i64 W5) ∧ w'.cell? ⟨w5.heap.size, 7, none⟩ = some (.int .i64 W6) ∧ w'.cell? ⟨w5.heap.size, 8, none⟩ = some (.int .i64 0) ∧ w'.cell? ⟨w5.heap.size, 9, none⟩ = some (.int .i64 0) ∧ w'.cell? ⟨w5.heap.size, 10, none⟩ = some (.int .i64 0) ∧ w'.cell? ⟨w5.heap.size, 11, none⟩ = some (.int .i64 0) ∧ w'.cell? ⟨w5.heap.size, 12, none⟩ = some (.int .i64 0) ∧ w'.cell? ⟨w5.heap.size, 13, none⟩ = some (.int .i64 0)) _ from ⟨HXe.out.cell 0, HXe.out.cell 1, HXe.out.cell 2, HXe.out.cell 3, HXe.out.cell 4, HXe.out.cell 5, HPe.out.cell 0, HPe.out.cell 1, HPe.out.cell 2, HPe.out.cell 3, HPe.out.cell 4, HPe.out.cell 5, HPe.out.cell 6, HPe.out.cell 7, HPe.out.cell 8, HPe.out.cell 9, HPe.out.cell 10, HPe.out.cell 11, HPe.out.cell 12, HPe.out.cell 13⟩) ?_
                  clear hK K hS
                  have hS := (show (fun (w' : World) => w'.cell? ⟨w4.heap.size, 0, none⟩ = some (.int .i64 W1) ∧ w'.cell? ⟨w4.heap.size, 1, none⟩ = some (.int .i64 W2) ∧ w'.cell? ⟨w4.heap.size, 2, none⟩ = some (.int .u16 W3) ∧ w'.cell? ⟨w4.heap.size, 3, none⟩ = some (.int .u16 W4) ∧ w'.cell? ⟨w4.heap.size, 4, none⟩ = some (.int .i64 W5) ∧ w'.cell? ⟨w4.heap.size, 5, none⟩ = some (.int .i64 W6) ∧ w'.cell? ⟨w5.heap.size, 0, none⟩ = some (.int .i64 Kd) ∧ w'.cell? ⟨w5.heap.size, 1, none⟩ = some (.int .i64 W1) ∧ w'.cell? ⟨w5.heap.size, 2, none⟩ = some (.int .i64 0) ∧ w'.cell? ⟨w5.heap.size, 3, none⟩ = some (.int .i64 W2) ∧ w'.cell? ⟨w5.heap.size, 4, none⟩ = some (.int .u16 W3) ∧ w'.cell? ⟨w5.heap.size, 5, none⟩ = some (.int .u16 W4) ∧ w'.cell? ⟨w5.heap.size, 6, none⟩ = some (.int .i64 W5) ∧ w'.cell? ⟨w5.heap.size, 7, none⟩ = some (.int .i64 W6) ∧ w'.cell? ⟨w5.heap.size, 8, none⟩ = some (.int .i64 0) ∧ w'.cell? ⟨w5.heap.size, 9, none⟩ = some (.int .i64 0) ∧ w'.cell? ⟨w5.heap.size, 10, none⟩ = some (.int .i64 0) ∧ w'.cell? ⟨w5.heap.size, 11, none⟩ = some (.int .i64 0) ∧ w'.cell? ⟨w5.heap.size, 12, none⟩ = some (.int .i64 0) ∧ w'.cell? ⟨w5.heap.size, 13, none⟩ = some (.int .i64 0)) _ from ⟨HXe.out.cell 0, HXe.out.cell 1, HXe.out.cell 2, HXe.out.cell 3, HXe.out.cell 4, HXe.out.cell 5, HPe.out.cell 0, HPe.out.cell 1, HPe.out.cell 2, HPe.out.cell 3, HPe.out.cell 4, HPe.out.cell 5, HPe.out.cell 6, HPe.out.cell 7, HPe.out.cell 8, HPe.out.cell 9, HPe.out.cell 10, HPe.out.cell 11, HPe.out.cell 12, HPe.out.cell 13⟩)
                  refine Turns.take hS 9 _ rfl (by kernel_rfl) (by kernel_rfl) (by kernel_rfl) (by kernel_rfl) (fun _ _ _ h => h) (by rfl) (fun w' hS' => by (try dsimp only at hS'); go_split_ands; go_simp; (try with_reducible rfl)) ?_
                  simp only [Act.put, List.getElem_toArray, List.getElem_cons_succ, List.getElem_cons_zero, List.setIfInBounds_toArray, List.set_cons_zero, List.set_cons_succ]
                  refine Turns.take hS 10 _ rfl (by kernel_rfl) (by kernel_rfl) (by kernel_rfl) (by kernel_rfl) (fun _ _ _ h => h) (by rfl) (fun w' hS' => by (try dsimp only at hS'); go_split_ands; go_simp; (try with_reducible rfl)) ?_
                  simp only [Act.put, List.getElem_toArray, List.getElem_cons_succ, List.getElem_cons_zero, List.setIfInBounds_toArray, List.set_cons_zero, List.set_cons_succ]
                  refine Turns.rest (late_done (by kernel_rfl)) ?_
                  refine any_tail 11 (by rfl) (by kernel_rfl) ?_
                  simp only [List.drop_succ_cons, List.drop_zero]
                  clear hS
                  go_wp2
                  go_meet
                  case rel => exact ⟨bz, n, gd, ge, Az, cz, F, rfl, rfl, by omega, HMF.out, ⟨hg1, hg2, hg3⟩, HLe.out, HDe.out⟩
          · as_aux_lemma =>
              obtain ⟨tg, th, tv, ht⟩ := tells_is f s1
              have htm := ftell_any _ _ gf g b n f HL1.out.fo HIf.out s1 tg th tv ht
              have HRt := Lib.hid (fun V A' c' (h : Df V gd ge A' c' f) => rftell_any V gd ge A' c' f h HIf.out s1 tg th tv ht)
              have g0 : (tg != tg) = false := by simp
              have g1 : (th != th) = false := by simp
              have g2 : (tv != tv) = false := by simp
              have o1 := HO.out.cell 1
              clear ht
              go_wp2_with (first
                | (go_at_call 9; refine htm.mono ?_; rintro e w4 ⟨rfl, hb4⟩; have HL4 := Lib.hid (HL1.out.below hb4); have HD4 := Lib.hid (HD1.out.below hb4); have HO4 := Lib.hid (HO.out.below hb4 HO.out.lt); have r1 := HO4.out.cell 1; clear hb4 o1)
                | (go_at_call 19; refine (HRt.out _ _ _ HD4.out).mono ?_; rintro e w5 ⟨rfl, hb5⟩; have HL5 := Lib.hid (HL4.out.below hb5); have HD5 := Lib.hid (HD4.out.below hb5); clear hb5))
              go_meet
              case rel => exact ⟨b, n, gd, ge, A, c, f, rfl, rfl, by omega, HMe.out, ⟨hg1, hg2, hg3⟩, HL5.out, HD5.out⟩
          · as_aux_lemma =>
              have hbo := fboot_any _ _ gf g b n f HL1.out.fo s6 f6
              have HIF := Lib.hid (HIf.out.boot f6)
              rw [boot_as_new HMe.out s6] at hbo HIF
              have o6 := HO.out.cell 6
              have hsz := HL1.out.law.size
              go_wp2_with (first
                | (go_at_call 7; refine hbo.mono ?_; rintro e w4 ⟨rfl, hg4⟩; obtain ⟨bz, hL4, hc4⟩ := HL1.out.step hg4 HIF.out; have HO4 := Lib.hid (HL1.out.other HO.out (by constructor <;> decide) hc4); have r6 := HO4.out.cell 6; have HL4 := Lib.hid hL4; have hs4 := hc4.size; have x0 := HL4.out.box.holds.cell 0; have x1 := HL4.out.box.holds.cell 1; have x2 := HL4.out.box.holds.cell 2; have x3 := HL4.out.box.holds.cell 3; clear hg4 hL4 hc4 o6)
                | (go_at_call 15; refine (HRn.out _ _).mono ?_; rintro e w5 ⟨gdz, gez, rfl, hD5, hge5, hb5⟩; have HL5 := Lib.hid (HL4.out.below hb5); have hlt5 := hD5.lt; have HD5 := Lib.hid hD5; clear hD5 hb5 x0 x1 x2 x3 r6))
              go_meet
              case rel => exact ⟨bz, 0, gdz, gez, _, _, _, rfl, rfl, by omega, ⟨rfl, rfl, rfl, rfl, rfl⟩, ⟨by simp at hs4; omega, by simp at hs4; omega, by simp at hs4; omega⟩, HL5.out, HD5.out⟩
          · go_wp2
            go_meet
            case rel => exact ⟨b, n, gd, ge, A, c, f, rfl, rfl, by omega, HMe.out, ⟨hg1, hg2, hg3⟩, HL1.out, HD1.out⟩
        case rest =>
          as_aux_lemma =>
            obtain ⟨bz, nz, gdz, gez, Az, cz, F, rfl, rfl, hnz, hMz, hgz, hLz, hDz⟩ := hcut
            have HMz := Lib.hid hMz
            have HLz := Lib.hid hLz
            have HDz := Lib.hid hDz
            obtain ⟨v0, v1, hv⟩ : ∃ v0 v1, saidV F.s = (v0, v1) := ⟨_, _, rfl⟩
            obtain ⟨cc, hcc⟩ : ∃ cc, saidB F.s = cc := ⟨_, rfl⟩
            obtain ⟨r, hr⟩ : ∃ r, F.s.root = r := ⟨_, rfl⟩
            obtain ⟨mm, hmm⟩ : ∃ mm, minB F = mm := ⟨_, rfl⟩
            obtain ⟨sy, hsy⟩ : ∃ sy, synB F = sy := ⟨_, rfl⟩
            obtain ⟨N, hN⟩ : ∃ N, F.L.length = N := ⟨_, rfl⟩
            have hsi := hLz.inv.s
            have hM1 := said_at HLz.out.fo.node hv hcc
            have HM2 := Lib.hid (fun V (h : Df V gdz gez Az cz F) => rmark_at h.node hsi hv hcc)
            have HR := Lib.hid (fun V (h : Lf w V 23 #[.int .i64 s1_0, .int .i64 s1_1, .int .i64 s1_2, .int .i64 s1_3] gf g bz nz F) => root_at h.fo.node hr)
            have HN := Lib.hid (fun V (h : Lf w V 23 #[.int .i64 s1_0, .int .i64 s1_1, .int .i64 s1_2, .int .i64 s1_3] gf g bz nz F) => mine_at h.fo.node (v := mm) hmm)
            have HN2 := Lib.hid (fun V (h : Df V gdz gez Az cz F) => rmine2_any V gdz gez Az cz F h)
            have HY := Lib.hid (fun V (h : Lf w V 23 #[.int .i64 s1_0, .int .i64 s1_1, .int .i64 s1_2, .int .i64 s1_3] gf g bz nz F) => synced_any V _ gf g bz nz F h.fo)
            have HY2 := Lib.hid (fun V (h : Df V gdz gez Az cz F) => rsynced_any V gdz gez Az cz F h)
            have HE := Lib.hid (fun V (h : Lf w V 23 #[.int .i64 s1_0, .int .i64 s1_1, .int .i64 s1_2, .int .i64 s1_3] gf g bz nz F) => entries_any V _ gf g bz nz F h.fo)
            have HCe := Lib.hid (fun V (h : Df V gdz gez Az cz F) => (⟨h.cells.1, h.cells.2.2.2.1, h.node.cells.2.2.2.2.2.1⟩ : V.cell? ⟨gdz, 0, none⟩ = some (.pointer (some ⟨gez, 0, none⟩)) ∧ V.cell? ⟨gdz, 3, none⟩ = some (.slice Az F.L.length cz) ∧ V.cell? ⟨gez, 5, none⟩ = some (.int .i64 F.s.root)))
            have HCf := Lib.hid (fun V (h : Lf w V 23 #[.int .i64 s1_0, .int .i64 s1_1, .int .i64 s1_2, .int .i64 s1_3] gf g bz nz F) => h.fo.cells.1)
            have hcz := hDz.row.cap_le
            have hcm := hDz.row.max
            simp only [hmm] at HN2
            simp only [hsy] at HY HY2
            simp only [hN] at HE HCe hcz
            simp only [hr] at HCe
            have dr : (r != r) = false := by simp
            have dm : (mm != mm) = false := by cases mm <;> rfl
            have dy : (sy != sy) = false := by cases sy <;> rfl
            have dc : (cc != cc) = false := by cases cc <;> rfl
            have e0 : (v0 != v0) = false := by simp
            have e1 : (v1 != v1) = false := by simp
            have dn : ((N : Int) != (N : Int)) = false := by simp
            have g0 := HCf.out _ HLz.out
            clear hMz hLz hDz hv hcc hr hmm hsy hN hsi HMe HIf HL1 HD1 HO hkind
            go_upto_region 43 with (first
              | (go_at_call 20; (with_reducible refine hM1.mono ?_); rintro e w6 ⟨rfl, hb6⟩; have HL6 := Lib.hid ((HLz.out.below hb6).alloc (.cells #[.int .u16 v0, .int .u16 v1] 59)); have HD6 := Lib.hid ((HDz.out.below hb6).alloc (.cells #[.int .u16 v0, .int .u16 v1] 59)); have HX6 := Lib.hid (Holds.new w6 59 #[.int .u16 v0, .int .u16 v1]); have hM2 := HM2.out _ HD6.out; have c6 := (HCe.out _ HD6.out).1; have hlt6 := HX6.out.lt; clear hM1 hb6 g0)
              | (go_at_call 21; (with_reducible refine hM2.mono ?_); rintro e w7 ⟨rfl, hb7⟩; have HL7 := Lib.hid (HL6.out.below hb7); have HD7 := Lib.hid (HD6.out.below hb7); have HX7 := Lib.hid (HX6.out.below hb7 hlt6); have z0 := HX7.out.cell 0; have z1 := HX7.out.cell 1; obtain ⟨z2, z3, z4⟩ := HCe.out _ HD7.out; have z5 := HCf.out _ HL7.out; clear hM2 hb7 c6))
            have hR := fun m => HR.out _ (HL7.out.drewN m)
            have hN1 := fun m => HN.out _ (HL7.out.drewN m)
            have hN2 := fun m => HN2.out _ (HD7.out.drewN m)
            have hY1 := fun m => HY.out _ (HL7.out.drewN m)
            have hY2 := fun m => HY2.out _ (HD7.out.drewN m)
            have hE1 := fun m => HE.out _ (HL7.out.drewN m)
            go_quiet (first
              | (go_at_call 22; refine (hR _).mono ?_; rintro e wx ⟨rfl, rfl⟩; exact ⟨rfl, _, rfl⟩)
              | (go_at_call 23; refine (hN1 _).mono ?_; rintro e wx ⟨rfl, nq, rfl⟩; first | exact ⟨rfl, _, fdrew_two _ _ _⟩ | exact ⟨rfl, _, fdrew_drew _ _ _ _⟩)
              | (go_at_call 24; refine (hN2 _).mono ?_; rintro e wx ⟨rfl, nq, rfl⟩; first | exact ⟨rfl, _, fdrew_two _ _ _⟩ | exact ⟨rfl, _, fdrew_drew _ _ _ _⟩)
              | (go_at_call 11; refine (hY1 _).mono ?_; rintro e wx ⟨rfl, nq, rfl⟩; first | exact ⟨rfl, _, fdrew_two _ _ _⟩ | exact ⟨rfl, _, fdrew_drew _ _ _ _⟩)
              | (go_at_call 25; refine (hY2 _).mono ?_; rintro e wx ⟨rfl, nq, rfl⟩; first | exact ⟨rfl, _, fdrew_two _ _ _⟩ | exact ⟨rfl, _, fdrew_drew _ _ _ _⟩)
              | (go_at_call 12; refine (hE1 _).mono ?_; rintro e wx ⟨rfl, rfl⟩; exact ⟨rfl, _, rfl⟩))
            go_wp2
            go_roundw
            case rel => exact ⟨k + 1, bz, nz, gdz, gez, Az, cz, F, by omega, by go_num, rfl, hnz, HMz.out, hgz, HL7.out.drewN _, HD7.out.drewN _⟩
            case measure => simp [intOf]; omega
      · as_aux_lemma =>
          obtain rfl : k = n2 := by omega
          go_wp2
          go_ret
          exact ⟨rfl, HL.out.law⟩

set_option maxRecDepth 100000 in
theorem lifted (os : Os) (started : os.Started) (H : Type) (enc : TypeId × Value → H) :
    ReturnsInHanded {} Tryz.checked os 3 .any (Rows.floodDoesSpec.pre6 enc Tryz.prog Tryz.f3 Rows.floodDoesRow.domain false) (Rows.floodDoesSpec.post enc Tryz.prog Tryz.f3 false true false false) := by
  refine returnsInHanded_of_change (C := Tryz.checked) own started (by kernel_rfl) Tryz.func3
    (ChangeSpec.witness6 (enc := enc) (C := Tryz.checked) false ⟨#[], #[.int .i64 0, .agg #[.int .i64 0, .int .i64 0, .int .i64 0, .int .i64 0], .slice none 0 0], []⟩ 8 (by kernel_rfl) (by kernel_rfl) (by kernel_rfl) (by kernel_rfl)) ?_
  intro W base args ds gs before hval0 hW hcnd _
  have hval : ∀ (j : Nat) t v, Tryz.f3.params[j]? = some t → args[j]? = some v → Value.okWide Tryz.prog W .any base t v := hval0
  have hW' := hW
  obtain ⟨p, q, hA0, hV, rfl, hfz, hnd⟩ := hW
  have hA : DataW.TrodAll enc Tryz.prog W 0 (fun _ => true) true Tryz.f3.params.toList args.toList ds p := hA0
  have hAk := hA
  rw [Tryz.params3] at hA hval
  obtain ⟨v0, vs0, d0, ds0, p0, q0, hargs, rfl, hp, h0, r0⟩ := trodAll_cons hA
  obtain ⟨v1, vs1, d1, ds1, p1, q1, rfl, rfl, rfl, h1, r1⟩ := trodAll_cons r0
  obtain ⟨v2, vs2, d2, ds2, p2, q2, rfl, rfl, rfl, h2, r2⟩ := trodAll_cons r1
  obtain ⟨rfl, rfl, rfl⟩ := trodAll_nil r2
  obtain rfl : args = #[v0, v1, v2] := by cases args; simp_all
  obtain ⟨rfl, rfl⟩ := trodVars_none hV
  clear hA0 hval0 hargs
  simp only [List.append_nil] at hW'
  have hend : ∀ W' : World, Below W.heap.size W W' → Rows.floodDoesSpec.post enc Tryz.prog Tryz.f3 false true false false W #[v0, v1, v2] (.bool true) W' := fun W' hb =>
    law_post (tb := 4) hW' hAk rfl (by kernel_rfl) (by kernel_rfl) (by kernel_rfl) Tryz.underlying4 rfl rfl rfl hb
  clear hW' hAk hp
  obtain ⟨a0, rfl, rfl, rfl, w0⟩ := open_int Tryz.underlying3 (hval 0 3 v0 rfl rfl) h0
  obtain ⟨ns1, rfl, hl1, hw1⟩ := ints_struct (ks := [.i64, .i64, .i64, .i64]) Tryz.underlying23 (by kernel_rfl) (by kernel_rfl) (by kernel_rfl) (hval 1 23 v1 rfl rfl) h1
  obtain ⟨s1_0, s1_1, s1_2, s1_3, rfl⟩ := split4 hl1
  clear hl1
  obtain ⟨A2, n2, c2, f2, rfl, w2⟩ := flats_arg (ks := [.int .i64, .int .i64, .int .i64, .int .i64, .int .i64, .int .i64, .int .u16, .int .u16, .int .i64, .int .i64, .int .i64, .int .i64, .int .i64, .int .i64, .int .i64, .int .i64]) 9 Tryz.underlying24 (by kernel_rfl) (by kernel_rfl) (by decide) (hval 2 24 v2 rfl rfl) h2
  refine (walk a0 s1_0 s1_1 s1_2 s1_3 A2 n2 c2 f2 W w0 (hw1 0 _ _ rfl rfl) (hw1 1 _ _ rfl rfl) (hw1 2 _ _ rfl rfl) (hw1 3 _ _ rfl rfl) w2).mono fun e W' ⟨he, hg⟩ => ?_
  subst he
  exact ⟨_, rfl, hend W' hg⟩

theorem over : Rows.floodDoesRow.holds Tryz.pinned (OpenSpec.ofChange Rows.floodDoesSpec) :=
  OpenClaim.holds_of_wide 3 Tryz.f3 rfl rfl rfl rfl rfl rfl rfl ⟨rfl, rfl, rfl, rfl, rfl⟩ rfl rfl rfl rfl rfl (by kernel_rfl) Tryz.func3 (by kernel_rfl)
    (of_decide_eq_true (by kernel_rfl)) (by unfold Func.isWrapper; first | (rw [if_pos (by decide +kernel)]; kernel_rfl) | (rw [if_neg (by decide +kernel)]; exact ⟨rfl, rfl⟩))
    (fun os started H enc _ => lifted os started H enc)

/-- THE STATEMENT -/
theorem proved : Rows.FloodDoesSaid :=
  over
#print axioms proved
end Go.Proofs.YtdnmgpendacjoaaGreat.floodDoes
