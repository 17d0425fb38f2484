/-
  A row of texts is as one of numbers: each cell stands for itself, what was pushed is popped in its order, and then there is an empty text and false: the law answers true, whatever the input.
  The walk is the prover's own; the frame of the row's step follows the kit's template.
-/
import Derived.Test.YtcbfpejlbbgdjaaRows
import Derived.Test.YtcbfpejlbbgdjaaLawKit
import Derived.Test.YtcbfpejlbbgdjaaFlat
import Derived.Test.YtcbfpejlbbgdjaaRgF
import Derived.Test.YtcbfpejlbbgdjaaRgPS
import Derived.LoopTactic
import Derived.Deep.CutBlock
namespace Go.Proofs.Ytcbfpejlbbgdjaa.ringTexts
open Go.ChangeShapes Go.WideShapes Go.ChangeAt Go.RowKit Go.ChangeMaps Go.WideElems
set_option linter.unusedVariables false

theorem cells1 {W : World} {vs : List Value} (h : Fit W [.str] vs) : ∃ (s0 : ByteArray), vs = [.string s0] ∧ s0.size ≤ maxLen := by
  match vs, h.length, h with
  | [y0], _, h =>
    obtain ⟨⟨x0, rfl, h0⟩, _⟩ := h
    exact ⟨x0, rfl, h0⟩
theorem own : ownKnob Try.prog.godebug = none := by kernel_rfl
theorem run_min2 (a b : Int) (w : World) : (Builtin.min_ #[3, 3] 3 #[.int .i64 a, .int .i64 b]).run Try.prog w = .ok (.int .i64 (if b < a then b else a)) w := by
  simp [Builtin.min_, Builtin.min2, go_sem]
/-- A row of texts, and what is below. -/
structure TRun (w0 : World) (z room : Nat) (L : List ByteArray) (w : World) : Prop where
  row : RS.Rg w z (z + 1) z room L
  below : Below w0.heap.size w0 w
  old : w0.heap.size ≤ z
theorem TRun.step {w0 w w' : World} {z room : Nat} {L L' : List ByteArray} (h : TRun w0 z room L w) (hr : RS.Rg w' z (z + 1) z room L') (hc : Chg (RS.part (z + 1) z) w w') : TRun w0 z room L' w' :=
  ⟨hr, Below.chg h.below hc h.below.size (fun k hk => by have := h.old; rcases hk with rfl | rfl <;> omega), h.old⟩
theorem TRun.onto {w0 w w' : World} {z room : Nat} {L : List ByteArray} (h : TRun w0 z room L w) (hb : Below w.heap.size w w') : TRun w0 z room L w' := ⟨h.row.below hb, h.below.trans (hb.mono h.below.size), h.old⟩
/-- The texts that came in. -/
def texts (f : Nat → List Value) (n : Nat) : List ByteArray := (List.range n).map fun i => match f i with
  | [.string s] => s
  | _ => ⟨#[]⟩
theorem texts_len (f : Nat → List Value) (n : Nat) : (texts f n).length = n := by simp [texts]
theorem texts_get {f : Nat → List Value} {n k : Nat} (hk : k < n) {s : ByteArray} (h : f k = [.string s]) : (texts f n)[k]? = some s := by
  simp [texts, hk, h]
theorem take_next {L : List ByteArray} {k : Nat} {s : ByteArray} (h : L[k]? = some s) : L.take k ++ [s] = L.take (k + 1) := by
  obtain ⟨hk, rfl⟩ := List.getElem?_eq_some_iff.1 h
  rw [List.take_succ_eq_append_getElem hk]
theorem drop_next {L : List ByteArray} {k m : Nat} {s : ByteArray} (h : L[k]? = some s) (hkm : k < m) : (L.take m).drop k = s :: (L.take m).drop (k + 1) := by
  obtain ⟨hk, rfl⟩ := List.getElem?_eq_some_iff.1 h
  have hk2 : k < (L.take m).length := by rw [List.length_take]; omega
  rw [List.drop_eq_getElem_cons hk2, List.getElem_take]
set_option linter.unusedSimpArgs false in
set_option maxHeartbeats 4000000 in
set_option maxRecDepth 100000 in
theorem walk (a0 : Int) (A1 : Option Addr) (n1 c1 : Nat) (f1 : Nat → List Value) (w : World) (w0 : (Lit.int .i64 a0).wf = true) (w1 : FlatRow w [.str] A1 n1 c1 f1) :
    Calls Try.prog 5 #[.int .i64 a0, .slice A1 n1 c1] w fun e w' => e = .returned (.bool true) ∧ Below w.heap.size w w' := by
  by_cases h1 : a0 < 1
  · go_enter Try.func5, Try.ntmps5
    go_wp2_with (first
      | ((go_at_call 7; refine (alive_yes _).mono ?_; rintro e w1 ⟨rfl, hb1⟩))
      | ((go_at_call 17; refine (hnew _).mono ?_; rintro e w2 ⟨rfl, hr2, hb2, hs2⟩)))
    go_ret
    exact ⟨rfl, hb1⟩
  have d1 : decide (a0 < 1) = false := decide_eq_false h1
  by_cases h2 : 64 < a0
  · go_enter Try.func5, Try.ntmps5
    go_wp2_with (first
      | ((go_at_call 7; refine (alive_yes _).mono ?_; rintro e w1 ⟨rfl, hb1⟩))
      | ((go_at_call 17; refine (hnew _).mono ?_; rintro e w2 ⟨rfl, hr2, hb2, hs2⟩)))
    go_ret
    exact ⟨rfl, hb1⟩
  have d2 : decide (64 < a0) = false := decide_eq_false h2
  by_cases h3 : 60 < n1
  · have d3 : decide ((60 : Int) < (n1 : Int)) = true := decide_eq_true (by omega)
    go_enter Try.func5, Try.ntmps5
    go_wp2_with (first
      | ((go_at_call 7; refine (alive_yes _).mono ?_; rintro e w1 ⟨rfl, hb1⟩))
      | ((go_at_call 17; refine (hnew _).mono ?_; rintro e w2 ⟨rfl, hr2, hb2, hs2⟩)))
    go_ret
    exact ⟨rfl, hb1⟩
  have d3 : decide ((60 : Int) < (n1 : Int)) = false := decide_eq_false (by omega)
  obtain ⟨room, rfl⟩ : ∃ room : Nat, a0 = room := ⟨a0.toNat, by omega⟩
  have hnew := fun W => RS.new_any W room (by omega) (by omega)
  have R1 := Lib.hid w1
  have hcap1 := w1.cap_le
  have hmx1 := w1.max
  unfold maxLen at hmx1
  clear w0 w1
  have hlen := texts_len f1 n1
  have hget : ∀ k, k < n1 → ∃ s, f1 k = [.string s] ∧ (texts f1 n1)[k]? = some s := fun k hk => by
    obtain ⟨s, hs, _⟩ := cells1 (R1.out.fit k hk)
    exact ⟨s, hs, texts_get hk hs⟩
  obtain ⟨T, hT⟩ : ∃ T, texts f1 n1 = T := ⟨_, rfl⟩
  rw [hT] at hlen
  simp only [hT] at hget
  have HG := Lib.hid hget
  have HLen := Lib.hid hlen
  clear hget hT hlen
  go_enter Try.func5, Try.ntmps5
  go_wp2_with (first
    | ((go_at_call 7; refine (alive_yes _).mono ?_; rintro e w1 ⟨rfl, hb1⟩))
    | ((go_at_call 17; refine (hnew _).mono ?_; rintro e w2 ⟨rfl, hr2, hb2, hs2⟩)))
  obtain ⟨z, hz⟩ : ∃ z, w1.heap.size = z := ⟨_, rfl⟩
  rw [hz] at hr2 hs2
  simp only [hz]
  have hrun : TRun w z room [] w2 := ⟨hr2, hb1.trans (hb2.mono hb1.size), by rw [← hz]; exact hb1.size⟩
  have HR0 := Lib.hid hrun
  clear hb1 hb2 hr2 hz hs2 hrun hnew
  go_loopw [36] (fun i wr => ∃ (k : Nat), k ≤ n1 ∧ i = .int .i64 (k : Int) ∧ TRun w z room (T.take (min k room)) wr) (fun i _ => n1 - (intOf i).toNat)
  case atStart => exact ⟨0, Nat.zero_le _, rfl, by simpa using HR0.out⟩
  case round =>
    obtain ⟨k, hk, rfl, hR⟩ := hrel
    have HR := Lib.hid hR
    clear HR0 hR
    by_cases hlt : k < n1
    · obtain ⟨b, off, rfl, hb', hc⟩ := (R1.out.below HR.out.below).at 1 rfl hlt
      obtain ⟨s, hf, hTk⟩ := HG.out k hlt
      have q0 : wr.cell? ⟨b, off + k, none⟩ = some (.string s) := by
        have := hc 0 _ (by rw [hf]; rfl)
        simpa using this
      have ew := IntWalk.i64_in ((k : Int) + 1) (by omega)
      have HTk := Lib.hid hTk
      clear hc hf hTk
      by_cases hkr : k < room
      · have hkk : min k room = k := by omega
        have hk1 : min (k + 1) room = k + 1 := by omega
        have hrow := HR.out.row
        rw [hkk] at hrow
        have hl : (T.take k).length = k := by rw [List.length_take, HLen.out]; omega
        have hp1 := RS.push_any _ _ _ _ _ _ s hrow (by rw [hl]; exact hkr)
        have HNext := Lib.hid (show T.take k ++ [s] = T.take (min (k + 1) room) by rw [hk1]; exact take_next HTk.out)
        have HRR := Lib.hid (show TRun w z room (T.take k) wr from ⟨hrow, HR.out.below, HR.out.old⟩)
        clear hkk hk1 hrow hl HR
        go_wp2_with (go_at_call 18; (with_reducible refine hp1.mono ?_); rintro e w5 ⟨rfl, hr5, hc5⟩; have hr5' := HRR.out.step hr5 hc5; rw [HNext.out] at hr5'; have HR5 := Lib.hid hr5'; clear hr5 hc5 hr5')
        go_roundw
        case rel => exact ⟨k + 1, by omega, by go_num, HR5.out⟩
        case measure => simp [intOf]; omega
      · have hkk : min k room = room := by omega
        have hk1 : min (k + 1) room = room := by omega
        have hl : (T.take (min k room)).length = room := by rw [List.length_take, HLen.out]; omega
        have hp1 := RS.push_full _ _ _ _ _ _ s HR.out.row hl
        have HNext := Lib.hid (show T.take (min k room) = T.take (min (k + 1) room) by rw [hkk, hk1])
        have dkr : decide ((k : Int) < (room : Int)) = false := decide_eq_false (by omega)
        clear hkk hk1 hl
        go_wp2_with (go_at_call 18; (with_reducible refine hp1.mono ?_); rintro e w5 ⟨rfl, hb5⟩; have hr5' := HR.out.onto hb5; rw [HNext.out] at hr5'; have HR5 := Lib.hid hr5'; clear hb5 hr5')
        go_roundw
        case rel => exact ⟨k + 1, by omega, by go_num, HR5.out⟩
        case measure => simp [intOf]; omega
    · have hkn : k = n1 := by omega
      rw [hkn] at HR
      obtain ⟨M, hM⟩ : ∃ M, min n1 room = M := ⟨_, rfl⟩
      rw [hM] at HR
      have hmin := fun W => run_min2 (room : Int) (n1 : Int) W
      have hif : (if (n1 : Int) < (room : Int) then (n1 : Int) else (room : Int)) = (M : Int) := by split <;> omega
      simp only [hif] at hmin
      have hMn : M ≤ n1 := by omega
      have HRM := Lib.hid (show TRun w z room ((T.take M).drop 0) wr from HR.out)
      clear HR hkn hM hif hk
      go_wp2
      go_loopw [9] (fun i wr => ∃ (j : Nat), j ≤ M ∧ i = .int .i64 (j : Int) ∧ TRun w z room ((T.take M).drop j) wr) (fun i _ => M - (intOf i).toNat)
      case atStart => exact ⟨0, Nat.zero_le _, rfl, HRM.out⟩
      case round =>
        obtain ⟨j, hj, rfl, hR⟩ := hrel
        have HR := Lib.hid hR
        clear HRM hR
        by_cases hjM : j < M
        · have djM : decide (j < M) = true := decide_eq_true hjM
          obtain ⟨s, hf, hTj⟩ := HG.out j (by omega)
          obtain ⟨b, off, rfl, hb', hc⟩ := R1.out.at 1 rfl (i := j) (by omega)
          have hq : w.cell? ⟨b, off + j, none⟩ = some (.string s) := by
            have := hc 0 _ (by rw [hf]; rfl)
            simpa using this
          have HQ := Lib.hid hq
          have hrow := HR.out.row
          rw [drop_next hTj hjM] at hrow
          have hpop := RS.pop_any _ _ _ _ _ _ _ hrow
          have HRR := Lib.hid (show TRun w z room (s :: (T.take M).drop (j + 1)) wr from ⟨hrow, HR.out.below, HR.out.old⟩)
          have ej := IntWalk.i64_in ((j : Int) + 1) (by omega)
          have hjn : (j : Int) < (n1 : Int) := by omega
          clear hq hc hf hTj hrow HR
          go_wp2_with (go_at_call 19; (with_reducible refine hpop.mono ?_); rintro e w5 ⟨rfl, hr5, hc5⟩; have HR5 := Lib.hid (HRR.out.step hr5 hc5); have q5 := (HR5.out.below.cell (p := ⟨b, off + j, none⟩) hb').trans HQ.out; clear hr5 hc5)
          go_roundw
          case rel => exact ⟨j + 1, by omega, by go_num, HR5.out⟩
          case measure => simp [intOf]; omega
        · have djM : ¬ j < M := hjM
          have hrow := HR.out.row
          rw [List.drop_eq_nil_of_le (by rw [List.length_take]; omega)] at hrow
          have hpop := RS.pop_none _ _ _ _ _ hrow
          clear hrow hj
          go_wp2_with (go_at_call 19; (with_reducible refine hpop.mono ?_); rintro e w5 ⟨rfl, rfl⟩)
          go_ret
          exact ⟨rfl, HR.out.below⟩

set_option maxRecDepth 100000 in
theorem lifted (os : Os) (started : os.Started) (H : Type) (enc : TypeId × Value → H) :
    ReturnsInHanded {} Try.checked os 5 .any (Rows.ringTextsSpec.pre6 enc Try.prog Try.f5 Rows.ringTextsRow.domain false) (Rows.ringTextsSpec.post enc Try.prog Try.f5 false true false false) := by
  refine returnsInHanded_of_change (C := Try.checked) own started (by kernel_rfl) Try.func5
    (ChangeSpec.witness6 (enc := enc) (C := Try.checked) false ⟨#[], #[.int .i64 0, .slice none 0 0], []⟩ 8 (by kernel_rfl) (by kernel_rfl) (by kernel_rfl) (by kernel_rfl)) ?_
  intro W base args ds gs before hval0 hW hcnd _
  have hval : ∀ (j : Nat) t v, Try.f5.params[j]? = some t → args[j]? = some v → Value.okWide Try.prog W .any base t v := hval0
  have hW' := hW
  obtain ⟨p, q, hA0, hV, rfl, hfz, hnd⟩ := hW
  have hA : DataW.TrodAll enc Try.prog W 0 (fun _ => true) true Try.f5.params.toList args.toList ds p := hA0
  have hAk := hA
  rw [Try.params5] at hA hval
  obtain ⟨v0, vs0, d0, ds0, p0, q0, hargs, rfl, hp, h0, r0⟩ := trodAll_cons hA
  obtain ⟨v1, vs1, d1, ds1, p1, q1, rfl, rfl, rfl, h1, r1⟩ := trodAll_cons r0
  obtain ⟨rfl, rfl, rfl⟩ := trodAll_nil r1
  obtain rfl : args = #[v0, v1] := by cases args; simp_all
  obtain ⟨rfl, rfl⟩ := trodVars_none hV
  clear hA0 hval0 hargs
  simp only [List.append_nil] at hW'
  have hend : ∀ W' : World, Below W.heap.size W W' → Rows.ringTextsSpec.post enc Try.prog Try.f5 false true false false W #[v0, v1] (.bool true) W' := fun W' hb =>
    law_post (tb := 4) hW' hAk rfl (by kernel_rfl) (by kernel_rfl) (by kernel_rfl) Try.underlying4 rfl rfl rfl hb
  clear hW' hAk hp
  obtain ⟨a0, rfl, rfl, rfl, w0⟩ := open_int Try.underlying3 (hval 0 3 v0 rfl rfl) h0
  obtain ⟨A1, n1, c1, f1, rfl, w1⟩ := flats_arg (ks := [.str]) 9 Try.underlying43 (by kernel_rfl) (by kernel_rfl) (by decide) (hval 1 43 v1 rfl rfl) h1
  refine (walk a0 A1 n1 c1 f1 W w0 w1).mono fun e W' ⟨he, hg⟩ => ?_
  subst he
  exact ⟨_, rfl, hend W' hg⟩

theorem over : Rows.ringTextsRow.holds Try.pinned (OpenSpec.ofChange Rows.ringTextsSpec) :=
  OpenClaim.holds_of_wide 5 Try.f5 rfl rfl rfl rfl rfl rfl rfl ⟨rfl, rfl, rfl, rfl, rfl⟩ rfl rfl rfl rfl rfl (by kernel_rfl) Try.func5 (by kernel_rfl)
    (of_decide_eq_true (by kernel_rfl)) (by unfold Func.isWrapper; first | (rw [if_pos (by decide +kernel)]; kernel_rfl) | (rw [if_neg (by decide +kernel)]; exact ⟨rfl, rfl⟩))
    (fun os started H enc _ => lifted os started H enc)

/-- THE STATEMENT -/
theorem proved : Rows.RingTextsSaid :=
  over
#print axioms proved
end Go.Proofs.Ytcbfpejlbbgdjaa.ringTexts
