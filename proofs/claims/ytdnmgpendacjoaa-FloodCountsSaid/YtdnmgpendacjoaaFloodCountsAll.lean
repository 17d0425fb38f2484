/-
  A root's own words count on from 1, in the life that it is in, with no hops and its own time.
  The walk is the prover's own; the frame of the row's step follows the kit's template.
-/
import Derived.Test.YtdnmgpendacjoaaRows
import Derived.Test.YtdnmgpendacjoaaGrpFloodCounts1
import Derived.Test.YtdnmgpendacjoaaGrpFloodCounts3
import Derived.Deep.QuietTactic
import Derived.BigQuiet
namespace Go.Proofs.Ytdnmgpendacjoaa.floodCounts
open Go.ChangeShapes Go.WideShapes Go.ChangeAt Go.RowKit Go.ChangeMaps Go.WideElems
set_option linter.unusedVariables false

theorem own : ownKnob Try.prog.godebug = none := by kernel_rfl
theorem beat_first {s : St} (hI : Inv s) (ht : s.tmo = 1) (hr : s.root = -1 ∨ s.root = s.me) : (beatS s).root = (beatS s).me ∧ (beatS s).me = s.me ∧ (beatS s).boot = s.boot ∧ (beatS s).seq = s.seq ∧ (beatS s).tmo = s.tmo := by
  have h1 := hI.waited
  unfold beatS
  split
  · rename_i h
    exact ⟨h, rfl, rfl, rfl, rfl⟩
  · rw [if_neg (by omega)]
    exact ⟨rfl, rfl, rfl, rfl, rfl⟩
theorem beatF_s (f : FS) : (beatF f).s = beatS f.s := by unfold beatF; split <;> rfl
set_option linter.unusedSimpArgs false in
set_option maxHeartbeats 8000000 in
set_option maxRecDepth 100000 in
theorem walk (a0 : Int) (a1 : Int) (A2 : Option Addr) (n2 c2 : Nat) (z2 : List Int) (w : World) (w0 : (Lit.int .i64 a0).wf = true) (w1 : (Lit.int .u16 a1).wf = true) (w2 : IntRow w .i64 A2 n2 c2 z2) :
    Calls Try.prog 6 #[.int .i64 a0, .int .u16 a1, .slice A2 n2 c2] w fun e w' => e = .returned (.bool true) ∧ Below w.heap.size w w' := by
  have H0 := Lib.hid (Below.refl w.heap.size w)
  by_cases h100 : 100 < n2
  · have d3 : decide ((100 : Int) < (n2 : Int)) = true := decide_eq_true (by omega)
    go_enter Try.func6, Try.ntmps6
    go_wp2_with (go_at_call 7; refine (alive_yes _).mono ?_; rintro e w1 ⟨rfl, hb1⟩)
    go_ret
    exact ⟨rfl, hb1⟩
  have d3 : decide ((100 : Int) < (n2 : Int)) = false := decide_eq_false (by omega)
  have hcap := w2.cap_le
  have hmx := w2.max
  unfold maxLen at hmx
  have R := Lib.hid w2
  have f1 := f16_wf w1
  cases hgd : fgoodB a0 1 0 1 0 with
  | false =>
    have hnew := fun W => fnew_no W a0 1 0 1 0 hgd
    have hcase : decide (a0 < 0) = true ∨ decide (a0 < 0) = false ∧ decide (63 < a0) = true := by
      by_cases e : a0 < 0
      · exact .inl (decide_eq_true e)
      · by_cases e2 : 63 < a0
        · exact .inr ⟨decide_eq_false e, decide_eq_true e2⟩
        · have k : fgoodB a0 1 0 1 0 = true := by
            unfold fgoodB goodB
            rw [decide_eq_true (show 0 ≤ a0 ∧ a0 < 64 ∧ (1 : Int) ≤ 1 ∧ (1 : Int) ≤ 1000 ∧ (0 : Int) ≤ 0 ∧ (0 : Int) ≤ 1000 by omega)]
            rfl
          rw [hgd] at k
          cases k
    clear hgd
    rcases hcase with d1 | ⟨d1, d2⟩ <;>
    · go_enter Try.func6, Try.ntmps6
      go_wp2_with (first
        | (go_at_call 7; refine (alive_yes _).mono ?_; rintro e w1 ⟨rfl, hb1⟩; have H1 := Lib.hid hb1; clear hb1)
        | (go_at_call 9; refine (lrules_any _ _ _ _ _).mono ?_; rintro e w2 ⟨rfl, hb2⟩; have H2 := Lib.hid (H1.out.trans (hb2.mono H1.out.size)); clear hb2)
        | (go_at_call 8; refine (hnew _).mono ?_; rintro e w3 ⟨rfl, hb3⟩; have H3 := Lib.hid (H2.out.trans (hb3.mono H2.out.size)); clear hb3))
      go_ret
      exact ⟨rfl, H3.out⟩
  | true =>
    have hnew := fun W => fnew_yes W a0 1 0 1 0 hgd
    have hI1 : FInv (newF a0 1 0 1 0 a1) := FInv.new hgd f1
    have HBo := Lib.hid (fun V gf g b (h : Fo V w.heap.size gf g b 0 (newF a0 1 0 1 0 0)) => fboot_any V w.heap.size gf g b 0 _ h a1 f1)
    have HI1 := Lib.hid hI1
    clear hgd hI1
    go_enter Try.func6, Try.ntmps6
    go_wp2_with (first
      | (go_at_call 7; refine (alive_yes _).mono ?_; rintro e w1 ⟨rfl, hb1⟩; have H1 := Lib.hid hb1; clear hb1)
      | (go_at_call 9; refine (lrules_any _ _ _ _ _).mono ?_; rintro e w2 ⟨rfl, hb2⟩; have H2 := Lib.hid (H1.out.trans (hb2.mono H1.out.size)); clear hb2)
      | (go_at_call 8; refine (hnew _).mono ?_; rintro e w3 ⟨gf, g, b, rfl, hF3, hb3⟩; have H3 := Lib.hid (H2.out.trans (hb3.mono H2.out.size)); have HF3 := Lib.hid (hF3.at H2.out.size); have hbo := HBo.out _ _ _ _ HF3.out; clear hb3 hF3 hnew)
      | (go_at_call 16; refine hbo.mono ?_; rintro e w4 ⟨rfl, b4, hF4, hc4, -⟩; have H4 := Lib.hid (Below.chg H3.out hc4 H3.out.size (fun k hk => by rcases hk with e | e | e <;> rw [e] <;> first | exact HF3.out.newer | exact HF3.out.node.newer.1 | exact HF3.out.node.newer.2)); have HF4 := Lib.hid hF4; clear hbo hc4 hF4))
    clear HBo H3 H2 H1 HF3
    go_loopw [9, 43] (fun c i wr => ∃ (k m b n : Nat) (f : FS), k ≤ n2 ∧ i = .int .i64 k ∧ c = .int .u16 m ∧ m ≤ k ∧ n = 0 ∧ (f.s.me = a0 ∧ f.s.boot = a1 ∧ f.s.seq = m ∧ f.s.tmo = 1 ∧ (f.s.root = -1 ∨ f.s.root = f.s.me)) ∧ FInv f ∧ Fo wr w.heap.size gf g b n f ∧ Below w.heap.size w wr) (fun _ i _ => n2 - (intOf i).toNat)
    case atStart => exact ⟨0, 0, b4, 0, newF a0 1 0 1 0 a1, by omega, rfl, rfl, by omega, rfl, ⟨rfl, rfl, rfl, rfl, .inl rfl⟩, HI1.out, HF4.out, H4.out⟩
    case round =>
      obtain ⟨k, m, b, n, f, hk, rfl, rfl, hm, rfl, ⟨p1, p2, p3, p4, p5⟩, hI, hF, hB⟩ := hrel
      have HF := Lib.hid hF
      have HB := Lib.hid hB
      clear hF hB HF4 H4 HI1
      by_cases hlt : k < n2
      · obtain ⟨A, off, rfl, hb', hc⟩ := (R.out.below HB.out).cell (by omega)
        have hck := hc k hlt
        rw [List.getD_eq_getElem?_getD] at hck
        have hfz : Fits (z2[k]?.getD 0) := by
          have hlen := R.out.len_eq
          rw [List.getElem?_eq_getElem (by omega)]
          exact fits_wf (R.out.wf _ (List.getElem_mem (by omega)))
        obtain ⟨Z, hZ⟩ : ∃ Z, z2[k]?.getD 0 = Z := ⟨_, rfl⟩
        rw [hZ] at hck hfz
        obtain ⟨F, hFe⟩ : ∃ F, beatF f = F := ⟨_, rfl⟩
        obtain ⟨q1, q2, q3, q4, q5⟩ := beat_first hI.s p4 p5
        rw [← beatF_s f, hFe] at q1 q2 q3 q4 q5
        have hmin : minB F = true := decide_eq_true q1
        have hsyn := min_syn hmin
        have ew := IntWalk.i64_in ((k : Int) + 1) (by omega)
        have hIF : FInv F := by rw [← hFe]; exact hI.beat
        cases htb : timeB Z with
        | false =>
          have hs : Says F Z noW false F := .inl ⟨htb, rfl, rfl, rfl⟩
          have hbt := fbeat_any wr w.heap.size gf g b 0 f HF.out hI Z hfz noW false F (by rw [hFe]; exact hs)
          have hcase : decide (Z < 0) = true ∨ decide (Z < 0) = false ∧ decide (1125899906842624 < Z) = true := by
            have k1 := of_decide_eq_false htb
            by_cases e : Z < 0
            · exact .inl (decide_eq_true e)
            · exact .inr ⟨decide_eq_false e, decide_eq_true (by omega)⟩
          have HMi := Lib.hid (fun V b (h : Fo V w.heap.size gf g b 0 F) => mine_at h.node (v := true) (decide_eq_true q1))
          have HSy := Lib.hid (fun V b (h : Fo V w.heap.size gf g b 0 F) => synced_any V w.heap.size gf g b 0 F h)
          rw [hsyn] at HSy
          have HRest := Lib.hid (⟨⟨q2.trans p1, q3.trans p2, q4.trans p3, q5.trans p4, .inr q1⟩, hIF⟩ : (F.s.me = a0 ∧ F.s.boot = a1 ∧ F.s.seq = m ∧ F.s.tmo = 1 ∧ (F.s.root = -1 ∨ F.s.root = F.s.me)) ∧ FInv F)
          unfold wordV noW at hbt
          clear hZ p1 p2 p3 p4 p5 q1 q2 q3 q4 q5 hmin hsyn hs htb hFe hIF hI hc
          rcases hcase with d1 | ⟨d1, d2⟩ <;>
          · go_wp2_with (first
              | (go_at_call 13; refine hbt.mono ?_; rintro e w5 ⟨rfl, b5, hF5, hc5, -⟩; have HB5 := Lib.hid ((Below.chg HB.out hc5 HB.out.size (fun k hk => by rcases hk with e | e | e <;> rw [e] <;> first | exact HF.out.newer | exact HF.out.node.newer.1 | exact HF.out.node.newer.2)).alloc (o := .cells #[.int .i64 0, .int .i64 0, .int .u16 0, .int .u16 0, .int .i64 0, .int .i64 0] 43) (by have := HB.out.size; have := hc5.size; omega)); have HF5 := Lib.hid (hF5.below (below_alloc w5 (.cells #[.int .i64 0, .int .i64 0, .int .u16 0, .int .u16 0, .int .i64 0, .int .i64 0] 43))); have k0 := HF5.out.cells.1; have hmi := HMi.out _ _ HF5.out; clear hbt hF5 hc5)
              | (go_at_call 14; (with_reducible refine hmi.mono ?_); rintro e wx ⟨rfl, nr, rfl⟩; have HF6 := Lib.hid (HF5.out.drewN nr); have HB6 := Lib.hid (below_drewN HB5.out nr); have hsy := HSy.out _ _ HF6.out; clear hmi k0)
              | (go_at_call 17; (with_reducible refine hsy.mono ?_); rintro e wx ⟨rfl, nq, rfl⟩; have hF7 := HF6.out.drewN nq; have hB7 := below_drewN HB6.out nq; rw [fdrew_two] at hF7 hB7; have HF7 := Lib.hid hF7; have HB7 := Lib.hid hB7; clear hsy hF7 hB7))
            go_roundw
            case rel => exact ⟨k + 1, m, b5, 0, F, by omega, by go_num, rfl, by omega, rfl, HRest.out.1, HRest.out.2, HF7.out, HB7.out⟩
            case measure => simp [intOf]; omega
        | true =>
          have hz := (timeB_iff Z).1 htb
          have d1 : decide (Z < 0) = false := decide_eq_false (by have := hz.1; omega)
          have d2 : decide (1125899906842624 < Z) = false := decide_eq_false (by have := hz.2; omega)
          have en : nextV F.s.seq = (m : Int) + 1 := by unfold nextV; rw [q4, p3]; omega
          have e16 : IntKind.u16.wrap ((m : Int) + 1) = (m : Int) + 1 := by rw [wrap_u16]; omega
          have hs : Says F Z (a0, a0, a1, (m : Int) + 1, 0, Z) true (F.at (issueS F.s)) := .inr (.inl ⟨htb, hmin, by rw [en, q1, q2, q3, p1, p2], rfl, rfl⟩)
          have hbt := fbeat_any wr w.heap.size gf g b 0 f HF.out hI Z hfz _ _ _ (by rw [hFe]; exact hs)
          have hIs : issueS F.s = { F.s with seq := nextV F.s.seq } := if_pos q1
          obtain ⟨F2, hF2⟩ : ∃ F2, F.at (issueS F.s) = F2 := ⟨_, rfl⟩
          have r1 : F2.s.root = F2.s.me := by rw [← hF2]; show (issueS F.s).root = (issueS F.s).me; rw [hIs]; exact q1
          have r2 : F2.s.me = a0 ∧ F2.s.boot = a1 ∧ F2.s.seq = (m + 1 : Nat) ∧ F2.s.tmo = 1 := by
            rw [← hF2]
            show (issueS F.s).me = a0 ∧ (issueS F.s).boot = a1 ∧ (issueS F.s).seq = (m + 1 : Nat) ∧ (issueS F.s).tmo = 1
            rw [hIs]
            exact ⟨q2.trans p1, q3.trans p2, by rw [show ((m + 1 : Nat) : Int) = (m : Int) + 1 by omega]; exact en, q5.trans p4⟩
          have hI2 : FInv F2 := by rw [← hF2]; exact hIF.issue
          rw [hF2] at hbt
          have hsyn2 : synB F2 = true := decide_eq_true (.inl r1)
          have HMi := Lib.hid (fun V b (h : Fo V w.heap.size gf g b 0 F2) => mine_at h.node (v := true) (decide_eq_true r1))
          have HSy := Lib.hid (fun V b (h : Fo V w.heap.size gf g b 0 F2) => synced_any V w.heap.size gf g b 0 F2 h)
          rw [hsyn2] at HSy
          have HRest := Lib.hid (⟨⟨r2.1, r2.2.1, r2.2.2.1, r2.2.2.2, .inr r1⟩, hI2⟩ : (F2.s.me = a0 ∧ F2.s.boot = a1 ∧ F2.s.seq = (m + 1 : Nat) ∧ F2.s.tmo = 1 ∧ (F2.s.root = -1 ∨ F2.s.root = F2.s.me)) ∧ FInv F2)
          unfold wordV at hbt
          simp only [] at hbt
          have g0 : (a0 != a0) = false := by simp
          have g1 : (a1 != a1) = false := by simp
          have g2 : (Z != Z) = false := by simp
          have g3 : ((m : Int) + 1 != (m : Int) + 1) = false := by simp
          clear hZ p1 p2 p3 p4 p5 q1 q2 q3 q4 q5 hmin hsyn hs htb hFe hIF hI hc hz en hIs hF2 r1 r2 hI2 hsyn2 f1
          go_wp2_with (first
            | (go_at_call 13; refine hbt.mono ?_; rintro e w5 ⟨rfl, b5, hF5, hc5, -⟩; have HB5 := Lib.hid ((Below.chg HB.out hc5 HB.out.size (fun k hk => by rcases hk with e | e | e <;> rw [e] <;> first | exact HF.out.newer | exact HF.out.node.newer.1 | exact HF.out.node.newer.2)).alloc (o := .cells #[.int .i64 a0, .int .i64 a0, .int .u16 a1, .int .u16 ((m : Int) + 1), .int .i64 0, .int .i64 Z] 43) (by have := HB.out.size; have := hc5.size; omega)); have HF5 := Lib.hid (hF5.below (below_alloc w5 (.cells #[.int .i64 a0, .int .i64 a0, .int .u16 a1, .int .u16 ((m : Int) + 1), .int .i64 0, .int .i64 Z] 43))); have HX := Lib.hid (Holds.new w5 43 #[.int .i64 a0, .int .i64 a0, .int .u16 a1, .int .u16 ((m : Int) + 1), .int .i64 0, .int .i64 Z]); have k0 := HF5.out.cells.1; have hmi := HMi.out _ _ HF5.out; clear hbt hF5 hc5)
            | (go_at_call 14; (with_reducible refine hmi.mono ?_); rintro e wx ⟨rfl, nr, rfl⟩; have HF6 := Lib.hid (HF5.out.drewN nr); have HB6 := Lib.hid (below_drewN HB5.out nr); have hsy := HSy.out _ _ HF6.out; clear hmi k0)
            | (go_at_call 17; (with_reducible refine hsy.mono ?_); rintro e wx ⟨rfl, nq, rfl⟩; have hF7 := HF6.out.drewN nq; have hB7 := below_drewN HB6.out nq; rw [fdrew_two] at hF7 hB7; have HF7 := Lib.hid hF7; have HB7 := Lib.hid hB7; have HX7 := Lib.hid (HX.out.drewN (nr + nq)); have x0 := HX7.out.cell 0; have x1 := HX7.out.cell 1; have x2 := HX7.out.cell 2; have x3 := HX7.out.cell 3; have x4 := HX7.out.cell 4; have x5 := HX7.out.cell 5; clear hsy hF7 hB7))
          go_roundw
          case rel => exact ⟨k + 1, m + 1, b5, 0, F2, by omega, by go_num, by go_num, by omega, rfl, HRest.out.1, HRest.out.2, HF7.out, HB7.out⟩
          case measure => simp [intOf]; omega
      · obtain rfl : k = n2 := by omega
        go_wp2
        go_ret
        exact ⟨rfl, HB.out⟩

set_option maxRecDepth 100000 in
theorem lifted (os : Os) (started : os.Started) (H : Type) (enc : TypeId × Value → H) :
    ReturnsInHanded {} Try.checked os 6 .any (Rows.floodCountsSpec.pre6 enc Try.prog Try.f6 Rows.floodCountsRow.domain false) (Rows.floodCountsSpec.post enc Try.prog Try.f6 false true false false) := by
  refine returnsInHanded_of_change (C := Try.checked) own started (by kernel_rfl) Try.func6
    (ChangeSpec.witness6 (enc := enc) (C := Try.checked) false ⟨#[], #[.int .i64 0, .int .u16 0, .slice none 0 0], []⟩ 8 (by kernel_rfl) (by kernel_rfl) (by kernel_rfl) (by kernel_rfl)) ?_
  intro W base args ds gs before hval0 hW hcnd _
  have hval : ∀ (j : Nat) t v, Try.f6.params[j]? = some t → args[j]? = some v → Value.okWide Try.prog W .any base t v := hval0
  have hW' := hW
  obtain ⟨p, q, hA0, hV, rfl, hfz, hnd⟩ := hW
  have hA : DataW.TrodAll enc Try.prog W 0 (fun _ => true) true Try.f6.params.toList args.toList ds p := hA0
  have hAk := hA
  rw [Try.params6] at hA hval
  obtain ⟨v0, vs0, d0, ds0, p0, q0, hargs, rfl, hp, h0, r0⟩ := trodAll_cons hA
  obtain ⟨v1, vs1, d1, ds1, p1, q1, rfl, rfl, rfl, h1, r1⟩ := trodAll_cons r0
  obtain ⟨v2, vs2, d2, ds2, p2, q2, rfl, rfl, rfl, h2, r2⟩ := trodAll_cons r1
  obtain ⟨rfl, rfl, rfl⟩ := trodAll_nil r2
  obtain rfl : args = #[v0, v1, v2] := by cases args; simp_all
  obtain ⟨rfl, rfl⟩ := trodVars_none hV
  clear hA0 hval0 hargs
  simp only [List.append_nil] at hW'
  have hend : ∀ W' : World, Below W.heap.size W W' → Rows.floodCountsSpec.post enc Try.prog Try.f6 false true false false W #[v0, v1, v2] (.bool true) W' := fun W' hb =>
    law_post (tb := 4) hW' hAk rfl (by kernel_rfl) (by kernel_rfl) (by kernel_rfl) Try.underlying4 rfl rfl rfl hb
  clear hW' hAk hp
  obtain ⟨a0, rfl, rfl, rfl, w0⟩ := open_int Try.underlying3 (hval 0 3 v0 rfl rfl) h0
  obtain ⟨a1, rfl, rfl, rfl, w1⟩ := open_int Try.underlying35 (hval 1 35 v1 rfl rfl) h1
  obtain ⟨A2, n2, c2, z2, rfl, w2⟩ := ints_arg Try.underlying62 Try.underlying3 (by kernel_rfl) (hval 2 62 v2 rfl rfl) h2
  refine (walk a0 a1 A2 n2 c2 z2 W w0 w1 w2).mono fun e W' ⟨he, hg⟩ => ?_
  subst he
  exact ⟨_, rfl, hend W' hg⟩

theorem over : Rows.floodCountsRow.holds Try.pinned (OpenSpec.ofChange Rows.floodCountsSpec) :=
  OpenClaim.holds_of_wide 6 Try.f6 rfl rfl rfl rfl rfl rfl rfl ⟨rfl, rfl, rfl, rfl, rfl⟩ rfl rfl rfl rfl rfl (by kernel_rfl) Try.func6 (by kernel_rfl)
    (of_decide_eq_true (by kernel_rfl)) (by unfold Func.isWrapper; first | (rw [if_pos (by decide +kernel)]; kernel_rfl) | (rw [if_neg (by decide +kernel)]; exact ⟨rfl, rfl⟩))
    (fun os started H enc _ => lifted os started H enc)

/-- THE STATEMENT -/
theorem proved : Rows.FloodCountsSaid :=
  over
#print axioms proved
end Go.Proofs.Ytdnmgpendacjoaa.floodCounts
