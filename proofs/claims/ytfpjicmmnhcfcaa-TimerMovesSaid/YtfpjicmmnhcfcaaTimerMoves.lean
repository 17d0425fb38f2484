/-
  What is set again is due at the new time alone, and counts as set then.
  The walk is the prover's own; the frame of the row's step follows the kit's template.
-/
import Derived.Test.YtfpjicmmnhcfcaaRows
import Derived.Test.YtfpjicmmnhcfcaaLawKit
import Derived.Test.YtfpjicmmnhcfcaaTmO
import Derived.LoopTactic
import Derived.Deep.CutBlock
namespace Go.Proofs.Ytfpjicmmnhcfcaa.timerMoves
open Go.ChangeShapes Go.WideShapes Go.ChangeAt Go.RowKit Go.ChangeMaps Go.WideElems
set_option linter.unusedVariables false

theorem own : ownKnob Try.prog.godebug = none := by kernel_rfl
set_option linter.unusedSimpArgs false in
set_option maxHeartbeats 4000000 in
set_option maxRecDepth 100000 in
theorem walk (A0 : Option Addr) (n0 c0 : Nat) (z0 : List Int) (a1 : Int) (a2 : Int) (w : World) (w0 : IntRow w .i64 A0 n0 c0 z0) (w1 : (Lit.int .i64 a1).wf = true) (w2 : (Lit.int .i64 a2).wf = true) :
    Calls Try.prog 6 #[.slice A0 n0 c0, .int .i64 a1, .int .i64 a2] w fun e w' => e = .returned (.bool true) ∧ Below w.heap.size w w' := by
  by_cases h16 : 16 < n0
  · go_enter Try.func6, Try.ntmps6
    go_wp2_with (first
      | ((go_at_call 7; refine (alive_yes _).mono ?_; rintro e w1 ⟨rfl, hb1⟩)))
    go_ret
    exact ⟨rfl, hb1⟩
  by_cases hneg : a1 < 0
  · go_enter Try.func6, Try.ntmps6
    go_wp2_with (first
      | ((go_at_call 7; refine (alive_yes _).mono ?_; rintro e w1 ⟨rfl, hb1⟩)))
    go_ret
    exact ⟨rfl, hb1⟩
  by_cases hbig : (n0 : Int) ≤ a1
  · go_enter Try.func6, Try.ntmps6
    go_wp2_with (first
      | ((go_at_call 7; refine (alive_yes _).mono ?_; rintro e w1 ⟨rfl, hb1⟩)))
    go_ret
    exact ⟨rfl, hb1⟩
  obtain ⟨m, rfl⟩ : ∃ m : Nat, a1 = m := ⟨a1.toNat, by omega⟩
  have hmn : m < n0 := by omega
  have d1 : decide (16 < n0) = false := decide_eq_false h16
  have d2 : decide (16 < (n0 : Int)) = false := decide_eq_false (by omega)
  have d3 : decide ((m : Int) < 0) = false := decide_eq_false (by omega)
  have d4 : decide (n0 ≤ m) = false := decide_eq_false (by omega)
  have d5 : decide ((n0 : Int) ≤ (m : Int)) = false := decide_eq_false (by omega)
  have R0 := Lib.hid w0
  clear w0
  go_enter Try.func6, Try.ntmps6
  go_wp2_with (first
    | ((go_at_call 7; refine (alive_yes _).mono ?_; rintro e w1 ⟨rfl, hb1⟩)))
  have hTa := (Tm.new w1 (B := w.heap.size) hb1.size).below (below_alloc _ (.cells #[.slice none 0 0] 26))
  have hTb := Tm.new (w1.alloc (.cells #[.slice none 0 0] 26)) (B := w.heap.size) (by simp; have := hb1.size; omega)
  rw [size_alloc] at hTb
  have hb2 := (hb1.alloc hb1.size (.cells #[.slice none 0 0] 26)).alloc (by simp; have := hb1.size; omega) (.cells #[.slice none 0 0] 26)
  obtain ⟨ga, hga⟩ : ∃ ga, w1.heap.size = ga := ⟨_, rfl⟩
  obtain ⟨gb, hgb⟩ : ∃ gb, ga + 1 = gb := ⟨_, rfl⟩
  have htwo : Two ((w1.alloc (.cells #[.slice none 0 0] 26)).alloc (.cells #[.slice none 0 0] 26)) w.heap.size ga (.slice none 0 0) (filled z0 0) gb (.slice none 0 0) (skipped z0 m 0) := by
    rw [hga] at hTa hTb
    rw [hgb] at hTb
    refine ⟨hTa, hTb, fun k hk hk' => ?_⟩
    rcases hk with rfl | hk
    · rcases hk' with rfl | hk'
      · omega
      · cases hk'
    · cases hk
  simp only [hga, hgb]
  have HTwo := Lib.hid htwo
  have HB2 := Lib.hid hb2
  clear htwo hb2 hTa hTb hb1 hga hgb
  go_loopw [31] (fun i wr => ∃ (k : Nat) (va vb : Value), k ≤ n0 ∧ i = .int .i64 k ∧ Two wr w.heap.size ga va (filled z0 k) gb vb (skipped z0 m k) ∧ Below w.heap.size w wr) (fun i _ => n0 - (intOf i).toNat)
  case atStart => exact ⟨0, _, _, Nat.zero_le _, rfl, HTwo.out, HB2.out⟩
  case round =>
    obtain ⟨k, va, vb, hk, rfl, hT, hb⟩ := hrel
    have HT := Lib.hid hT
    have HB := Lib.hid hb
    clear hT hb HTwo HB2
    have hsz := HB.out.size
    by_cases hlt : k < n0
    · obtain ⟨b, off, rfl, hbw, hc⟩ := R0.out.cell (by omega)
      have q := (HB.out.cell (p := ⟨b, off + k, none⟩) hbw).trans (hc k hlt)
      rw [List.getD_eq_getElem?_getD] at q
      have hA := filled_new2 z0 (k := k) (by omega) wr w.heap.size ga va HT.out.1
      have hB := fun (hkm : k ≠ m) (W : World) (v : Value) (h : Tm W w.heap.size gb v (skipped z0 m k)) => skipped_set z0 (k := k) (by omega) hkm W w.heap.size gb v h
      obtain ⟨X, hX⟩ : ∃ X, z0[k]?.getD 0 = X := ⟨_, rfl⟩
      simp only [hX] at q hA hB
      clear hc hX
      by_cases hkm : k = m
      · have hsk : skipped z0 m (k + 1) = skipped z0 m k := by
          conv => lhs; unfold skipped
          rw [if_pos hkm]
        have hne : ((k : Int) != (m : Int)) = false := by rw [hkm]; simp
        have HSk := Lib.hid hsk
        have HKM := Lib.hid hkm
        clear hsk hB hkm
        go_wp2_with (go_at_call 8; (with_reducible refine hA.mono ?_); rintro e w3 ⟨rfl, hn2⟩; have hb2 := hn2.below HT.out.1 HB.out (Nat.le_refl _) hsz; obtain ⟨va2, ht2, _⟩ := HT.out.now hn2; have HT2 := Lib.hid ht2; have HB2 := Lib.hid hb2; clear ht2 hb2 hn2)
        go_roundw
        case rel => exact ⟨k + 1, va2, vb, by omega, by go_num, by rw [HSk.out]; exact HT2.out, HB2.out⟩
        case measure => simp [intOf]; omega
      · have hne : ((k : Int) != (m : Int)) = true := by rw [bne_iff_ne]; omega
        have hB := hB hkm
        clear hkm
        go_wp2_with (first
          | (go_at_call 8; (with_reducible refine hA.mono ?_); rintro e w3 ⟨rfl, hn2⟩; have hb2 := hn2.below HT.out.1 HB.out (Nat.le_refl _) hsz; obtain ⟨va2, ht2, _⟩ := HT.out.now hn2; have HT2 := Lib.hid ht2.swap; have HB2 := Lib.hid hb2; clear ht2 hb2 hn2; have hB' := hB _ _ HT2.out.1)
          | (go_at_call 8; (with_reducible refine hB'.mono ?_); rintro e w4 ⟨rfl, hn3⟩; have hb3 := hn3.below HT2.out.1 HB2.out (Nat.le_refl _) HB2.out.size; obtain ⟨vb2, ht3, _⟩ := HT2.out.now hn3; have HT3 := Lib.hid ht3.swap; have HB3 := Lib.hid hb3; clear ht3 hb3 hn3))
        go_roundw
        case rel => exact ⟨k + 1, va2, vb2, by omega, by go_num, HT3.out, HB3.out⟩
        case measure => simp [intOf]; omega
    · have hkn : k = n0 := by omega
      rw [hkn] at HT
      clear hkn hk
      have hfit := range_wf R0.out.wf
      obtain ⟨e1, e2, e3, e4, e5⟩ := moved z0 (m := m) (n := n0) a2 hmn (by omega)
      have hma : ∀ e ∈ insL a2 m (skipped z0 m n0), e.1 ≤ 9223372036854775807 := fun e he => by
        rcases mem_ins.1 he with rfl | he
        · exact (fits_wf w2).2
        · obtain ⟨j, _, rfl⟩ := (filled_mem z0 n0 e).1 (skipped_mem z0 m n0 e he)
          exact (hfit j).2
      have hup := upto_all hma
      have hA := set_any wr w.heap.size ga va (filled z0 n0) a2 m HT.out.1 (wf_nat (by omega))
      have hB := fun (W : World) (v : Value) (h : Tm W w.heap.size gb v (skipped z0 m n0)) => set_any W w.heap.size gb v (skipped z0 m n0) a2 m h (wf_nat (by omega))
      have hDa := fun (W : World) (v : Value) (h : Tm W w.heap.size ga v (insL a2 m (skipped z0 m n0))) => due_any W w.heap.size ga v _ 9223372036854775807 h
      have hDb := fun (W : World) (v : Value) (h : Tm W w.heap.size gb v (insL a2 m (skipped z0 m n0))) => due_any W w.heap.size gb v _ 9223372036854775807 h
      have hLa := fun (W : World) (v : Value) (h : Tm W w.heap.size ga v (insL a2 m (skipped z0 m n0))) => len_any W w.heap.size ga v _ h
      have hwf := fun (h : Good (insL a2 m (skipped z0 m n0))) => due_wf h 9223372036854775807
      unfold Given at hA hB
      unfold Fell at hDa hDb
      rw [e5] at hup
      simp only [e1, e2] at hA
      simp only [e3, e4] at hB
      simp only [hup] at hDa hDb
      simp only [e5] at hLa
      obtain ⟨F, hF⟩ : ∃ F, insL a2 m (skipped z0 m n0) = F := ⟨_, rfl⟩
      simp only [hF] at hA hB hDa hDb hLa hwf
      obtain ⟨D, hD⟩ : ∃ D, dueL 9223372036854775807 F = D := ⟨_, rfl⟩
      obtain ⟨E, hE⟩ : ∃ E, restL 9223372036854775807 F = E := ⟨_, rfl⟩
      simp only [hD, hE] at hDa hDb hwf
      clear e1 e2 e3 e4 e5 hma hup hF hD hE hfit
      go_upto_region 16 with (first
        | (go_at_call 8; (with_reducible refine hA.mono ?_); rintro e w3 ⟨rfl, hn3⟩; have hb3 := hn3.below HT.out.1 HB.out (Nat.le_refl _) hsz; obtain ⟨va3, ht3, _⟩ := HT.out.now hn3; have HT3 := Lib.hid ht3.swap; have HB3 := Lib.hid hb3; clear hn3 hb3 ht3; have hB' := hB _ _ HT3.out.1)
        | (go_at_call 8; (with_reducible refine hB'.mono ?_); rintro e w4 ⟨rfl, hn4⟩; have hb4 := hn4.below HT3.out.1 HB3.out (Nat.le_refl _) HB3.out.size; obtain ⟨vb4, ht4, _⟩ := HT3.out.now hn4; have HT4 := Lib.hid ht4.swap; have HB4 := Lib.hid hb4; clear hn4 hb4 ht4; have hLa' := hLa _ _ HT4.out.1; have hDa' := hDa _ _ HT4.out.1)
        | (go_at_call 14; (with_reducible refine hLa'.mono ?_); rintro e w' ⟨rfl, rfl⟩)
        | (go_at_call 12; (with_reducible refine hDa'.mono ?_); rintro e w5 ⟨A5, c5, rfl, ho5, hn5⟩; have HW := Lib.hid (hwf HT4.out.1.2.1); have hb5 := hn5.below HT4.out.1 HB4.out (Nat.le_refl _) HB4.out.size; obtain ⟨va5, ht5, _⟩ := HT4.out.now hn5; have ho5' := own_up ho5 (B' := w.heap.size) (fun q hq => Nat.le_trans HB4.out.size (ho5.lt q hq).1); have HO5 := Lib.hid ho5'; have HT5 := Lib.hid ht5.swap; have HB5 := Lib.hid hb5; clear ho5 ho5' hn5 hb5 ht5; have hDb' := hDb _ _ HT5.out.1)
        | (go_at_call 12; (with_reducible refine hDb'.mono ?_); rintro e w6 ⟨A6, c6, rfl, ho6, hn6⟩; have hb6 := hn6.below HT5.out.1 HB5.out (Nat.le_refl _) HB5.out.size; obtain ⟨vb6, ht6, hc6⟩ := HT5.out.now hn6; have ho6' := own_up ho6 (B' := w.heap.size) (fun q hq => Nat.le_trans HB5.out.size (ho6.lt q hq).1); have ho56 := own_chg HO5.out hc6 (fun q hq => HT5.out.1.list HO5.out hq); have HO6 := Lib.hid ho6'; have HO56 := Lib.hid ho56; have HB6 := Lib.hid hb6; clear ho6 ho6' ho56 hn6 hb6 ht6 hc6))
      clear hA hB hB' hLa hLa' hDa hDa' hDb hDb' hwf
      have HRx := Lib.hid (IntRow.of_own HO56.out HW.out)
      have HRy := Lib.hid (IntRow.of_own HO6.out HW.out)
      clear HO56 HO6 HO5 HT3 HB3 HT4 HB4 HT5 HB5
      go_wp2
      go_loopw [78] (fun y wr => ∃ k m : Nat, k ≤ n0 ∧ y = .int .i64 k ∧ wr = w6.drewN m) (fun y _ => n0 - (intOf y).toNat)
      case atStart => exact ⟨0, 0, Nat.zero_le _, rfl, rfl⟩
      case round =>
        obtain ⟨k, j, hk, rfl, rfl⟩ := hrel
        by_cases hlt : k < n0
        · obtain ⟨bx, ox, rfl, _, hx⟩ := HRx.out.cell (by omega)
          obtain ⟨by', oy, rfl, _, hy⟩ := HRy.out.cell (by omega)
          have qx := hx k hlt
          have qy := hy k hlt
          obtain ⟨X, hX⟩ : ∃ X, D.getD k 0 = X := ⟨_, rfl⟩
          rw [hX] at qx qy
          have hk0 : (0 : Int) ≤ (k : Int) := by omega
          have hkU : (k : Int) < (n0 : Int) := by omega
          clear hx hy hX
          go_upto_region 21 with fail
          go_quiet (fail)
          go_wp2
          go_roundw
          case rel => exact ⟨k + 1, _, by omega, by go_num, rfl⟩
          case measure => simp [intOf]; omega
        · go_wp2
          go_ret
          exact ⟨rfl, below_drewN HB6.out _⟩

set_option maxRecDepth 100000 in
theorem lifted (os : Os) (started : os.Started) (H : Type) (enc : TypeId × Value → H) :
    ReturnsInHanded {} Try.checked os 6 .any (Rows.timerMovesSpec.pre6 enc Try.prog Try.f6 Rows.timerMovesRow.domain false) (Rows.timerMovesSpec.post enc Try.prog Try.f6 false true false false) := by
  refine returnsInHanded_of_change (C := Try.checked) own started (by kernel_rfl) Try.func6
    (ChangeSpec.witness6 (enc := enc) (C := Try.checked) false ⟨#[], #[.slice none 0 0, .int .i64 0, .int .i64 0], []⟩ 8 (by kernel_rfl) (by kernel_rfl) (by kernel_rfl) (by kernel_rfl)) ?_
  intro W base args ds gs before hval0 hW hcnd _
  have hval : ∀ (j : Nat) t v, Try.f6.params[j]? = some t → args[j]? = some v → Value.okWide Try.prog W .any base t v := hval0
  have hW' := hW
  obtain ⟨p, q, hA0, hV, rfl, hfz, hnd⟩ := hW
  have hA : DataW.TrodAll enc Try.prog W 0 (fun _ => true) true Try.f6.params.toList args.toList ds p := hA0
  have hAk := hA
  rw [Try.params6] at hA hval
  obtain ⟨v0, vs0, d0, ds0, p0, q0, hargs, rfl, hp, h0, r0⟩ := trodAll_cons hA
  obtain ⟨v1, vs1, d1, ds1, p1, q1, rfl, rfl, rfl, h1, r1⟩ := trodAll_cons r0
  obtain ⟨v2, vs2, d2, ds2, p2, q2, rfl, rfl, rfl, h2, r2⟩ := trodAll_cons r1
  obtain ⟨rfl, rfl, rfl⟩ := trodAll_nil r2
  obtain rfl : args = #[v0, v1, v2] := by cases args; simp_all
  obtain ⟨rfl, rfl⟩ := trodVars_none hV
  clear hA0 hval0 hargs
  simp only [List.append_nil] at hW'
  have hend : ∀ W' : World, Below W.heap.size W W' → Rows.timerMovesSpec.post enc Try.prog Try.f6 false true false false W #[v0, v1, v2] (.bool true) W' := fun W' hb =>
    law_post (tb := 4) hW' hAk rfl (by kernel_rfl) (by kernel_rfl) (by kernel_rfl) Try.underlying4 rfl rfl rfl hb
  clear hW' hAk hp
  obtain ⟨A0, n0, c0, z0, rfl, w0⟩ := ints_arg Try.underlying38 Try.underlying3 (by kernel_rfl) (hval 0 38 v0 rfl rfl) h0
  obtain ⟨a1, rfl, rfl, rfl, w1⟩ := open_int Try.underlying3 (hval 1 3 v1 rfl rfl) h1
  obtain ⟨a2, rfl, rfl, rfl, w2⟩ := open_int Try.underlying3 (hval 2 3 v2 rfl rfl) h2
  refine (walk A0 n0 c0 z0 a1 a2 W w0 w1 w2).mono fun e W' ⟨he, hg⟩ => ?_
  subst he
  exact ⟨_, rfl, hend W' hg⟩

theorem over : Rows.timerMovesRow.holds Try.pinned (OpenSpec.ofChange Rows.timerMovesSpec) :=
  OpenClaim.holds_of_wide 6 Try.f6 rfl rfl rfl rfl rfl rfl rfl ⟨rfl, rfl, rfl, rfl, rfl⟩ rfl rfl rfl rfl rfl (by kernel_rfl) Try.func6 (by kernel_rfl)
    (of_decide_eq_true (by kernel_rfl)) (by unfold Func.isWrapper; first | (rw [if_pos (by decide +kernel)]; kernel_rfl) | (rw [if_neg (by decide +kernel)]; exact ⟨rfl, rfl⟩))
    (fun os started H enc _ => lifted os started H enc)

/-- THE STATEMENT -/
theorem proved : Rows.TimerMovesSaid :=
  over
#print axioms proved
end Go.Proofs.Ytfpjicmmnhcfcaa.timerMoves
