/-
  What is due now, and what is due later, one behind the other, is what is due later, at once.
  The walk is the prover's own; the frame of the row's step follows the kit's template.
-/
import Derived.Test.YtfpjicmmnhcfcaaRows
import Derived.Test.YtfpjicmmnhcfcaaLawKit
import Derived.Test.YtfpjicmmnhcfcaaTmN
import Derived.LoopTactic
import Derived.Deep.CutBlock
namespace Go.Proofs.Ytfpjicmmnhcfcaa.timerSplits
open Go.ChangeShapes Go.WideShapes Go.ChangeAt Go.RowKit Go.ChangeMaps Go.WideElems
set_option linter.unusedVariables false

theorem own : ownKnob Try.prog.godebug = none := by kernel_rfl
set_option linter.unusedSimpArgs false in
set_option maxHeartbeats 4000000 in
set_option maxRecDepth 100000 in
theorem walk (A0 : Option Addr) (n0 c0 : Nat) (z0 : List Int) (a1 : Int) (a2 : Int) (w : World) (w0 : IntRow w .i64 A0 n0 c0 z0) (w1 : (Lit.int .i64 a1).wf = true) (w2 : (Lit.int .i64 a2).wf = true) :
    Calls Try.prog 5 #[.slice A0 n0 c0, .int .i64 a1, .int .i64 a2] w fun e w' => e = .returned (.bool true) ∧ Below w.heap.size w w' := by
  by_cases h16 : 16 < n0
  · go_enter Try.func5, Try.ntmps5
    go_wp2_with (first
      | ((go_at_call 7; refine (alive_yes _).mono ?_; rintro e w1 ⟨rfl, hb1⟩)))
    go_ret
    exact ⟨rfl, hb1⟩
  by_cases hord : a2 < a1
  · go_enter Try.func5, Try.ntmps5
    go_wp2_with (first
      | ((go_at_call 7; refine (alive_yes _).mono ?_; rintro e w1 ⟨rfl, hb1⟩)))
    go_ret
    exact ⟨rfl, hb1⟩
  have R0 := Lib.hid w0
  clear w0
  go_enter Try.func5, Try.ntmps5
  go_wp2_with (first
    | ((go_at_call 7; refine (alive_yes _).mono ?_; rintro e w1 ⟨rfl, hb1⟩)))
  have hTa := (Tm.new w1 (B := w.heap.size) hb1.size).below (below_alloc _ (.cells #[.slice none 0 0] 26))
  have hTb := Tm.new (w1.alloc (.cells #[.slice none 0 0] 26)) (B := w.heap.size) (by simp; have := hb1.size; omega)
  rw [size_alloc] at hTb
  have hb2 := (hb1.alloc hb1.size (.cells #[.slice none 0 0] 26)).alloc (by simp; have := hb1.size; omega) (.cells #[.slice none 0 0] 26)
  obtain ⟨ga, hga⟩ : ∃ ga, w1.heap.size = ga := ⟨_, rfl⟩
  obtain ⟨gb, hgb⟩ : ∃ gb, ga + 1 = gb := ⟨_, rfl⟩
  have htwo : Two ((w1.alloc (.cells #[.slice none 0 0] 26)).alloc (.cells #[.slice none 0 0] 26)) w.heap.size ga (.slice none 0 0) (filled z0 0) gb (.slice none 0 0) (filled z0 0) := by
    rw [hga] at hTa hTb
    rw [hgb] at hTb
    refine ⟨hTa, hTb, fun k hk hk' => ?_⟩
    rcases hk with rfl | hk
    · rcases hk' with rfl | hk'
      · omega
      · cases hk'
    · cases hk
  simp only [hga, hgb]
  have HTwo := Lib.hid htwo
  have HB2 := Lib.hid hb2
  clear htwo hb2 hTa hTb hb1 hga hgb
  go_loopw [26] (fun i wr => ∃ (k : Nat) (va vb : Value), k ≤ n0 ∧ i = .int .i64 k ∧ Two wr w.heap.size ga va (filled z0 k) gb vb (filled z0 k) ∧ Below w.heap.size w wr) (fun i _ => n0 - (intOf i).toNat)
  case atStart => exact ⟨0, _, _, Nat.zero_le _, rfl, HTwo.out, HB2.out⟩
  case round =>
    obtain ⟨k, va, vb, hk, rfl, hT, hb⟩ := hrel
    have HT := Lib.hid hT
    have HB := Lib.hid hb
    clear hT hb HTwo HB2
    have hsz := HB.out.size
    by_cases hlt : k < n0
    · obtain ⟨b, off, rfl, hbw, hc⟩ := R0.out.cell (by omega)
      have q := (HB.out.cell (p := ⟨b, off + k, none⟩) hbw).trans (hc k hlt)
      rw [List.getD_eq_getElem?_getD] at q
      have hset := fun (W : World) (g : Nat) (v : Value) (h : Tm W w.heap.size g v (filled z0 k)) => filled_new2 z0 (k := k) (by omega) W w.heap.size g v h
      obtain ⟨X, hX⟩ : ∃ X, z0[k]?.getD 0 = X := ⟨_, rfl⟩
      simp only [hX] at q hset
      clear hc hX
      have hA := hset _ ga va HT.out.1
      go_wp2_with (first
        | (go_at_call 8; (with_reducible refine hA.mono ?_); rintro e w2 ⟨rfl, hn2⟩; have hb2 := hn2.below HT.out.1 HB.out (Nat.le_refl _) hsz; obtain ⟨va2, ht2, _⟩ := HT.out.now hn2; have HT2 := Lib.hid ht2.swap; have HB2 := Lib.hid hb2; clear ht2 hb2 hn2; have hB := hset _ gb vb HT2.out.1)
        | (go_at_call 8; (with_reducible refine hB.mono ?_); rintro e w3 ⟨rfl, hn3⟩; have hb3 := hn3.below HT2.out.1 HB2.out (Nat.le_refl _) HB2.out.size; obtain ⟨vb2, ht3, _⟩ := HT2.out.now hn3; have HT3 := Lib.hid ht3.swap; have HB3 := Lib.hid hb3; clear ht3 hb3 hn3))
      go_roundw
      case rel => exact ⟨k + 1, va2, vb2, by omega, by go_num, HT3.out, HB3.out⟩
      case measure => simp [intOf]; omega
    · have hkn : k = n0 := by omega
      rw [hkn] at HT
      clear hkn hk
      obtain ⟨hdd, hrr⟩ := due_due (a := a1) (b := a2) (by omega) (filled z0 n0)
      have hwf := due_wf (filled_good z0 n0 (by omega)) a2
      have hwf2 := due_wf (good_rest (filled_good z0 n0 (by omega)) a1) a2
      have hl1 := due_len a1 (filled z0 n0)
      have hl2 := due_len a2 (restL a1 (filled z0 n0))
      have hl3 := due_len a2 (filled z0 n0)
      have hle1 := upto_le a1 (filled z0 n0)
      have hle2 := upto_le a2 (restL a1 (filled z0 n0))
      have hle3 := upto_le a2 (filled z0 n0)
      have hrl : (restL a1 (filled z0 n0)).length ≤ n0 := by
        unfold restL
        rw [List.length_drop, filled_len]
        omega
      rw [filled_len] at hle1 hle3
      have hA := due_any wr w.heap.size ga va (filled z0 n0) a1 HT.out.1
      have hB := fun (W : World) (v : Value) (h : Tm W w.heap.size ga v (restL a1 (filled z0 n0))) => due_any W w.heap.size ga v (restL a1 (filled z0 n0)) a2 h
      have hC := fun (W : World) (v : Value) (h : Tm W w.heap.size gb v (filled z0 n0)) => due_any W w.heap.size gb v (filled z0 n0) a2 h
      unfold Fell at hA hB hC
      obtain ⟨L, hL⟩ : ∃ L, filled z0 n0 = L := ⟨_, rfl⟩
      rw [hL] at HT
      simp only [hL] at hA hB hC hdd hrr hwf hwf2 hl1 hl2 hl3 hle1 hle2 hle3 hrl
      clear hL
      obtain ⟨M, hM⟩ : ∃ M, restL a1 L = M := ⟨_, rfl⟩
      simp only [hM] at hA hB hdd hrr hwf2 hl2 hle2 hrl
      simp only [hrr] at hB
      clear hM
      obtain ⟨N, hN⟩ : ∃ N, restL a2 L = N := ⟨_, rfl⟩
      simp only [hN] at hB hC
      obtain ⟨D1, hD1⟩ : ∃ D, dueL a1 L = D := ⟨_, rfl⟩
      obtain ⟨D2, hD2⟩ : ∃ D, dueL a2 M = D := ⟨_, rfl⟩
      obtain ⟨D3, hD3⟩ : ∃ D, dueL a2 L = D := ⟨_, rfl⟩
      obtain ⟨U1, hU1⟩ : ∃ U, upto a1 L = U := ⟨_, rfl⟩
      obtain ⟨U2, hU2⟩ : ∃ U, upto a2 M = U := ⟨_, rfl⟩
      obtain ⟨U3, hU3⟩ : ∃ U, upto a2 L = U := ⟨_, rfl⟩
      simp only [hD1, hD2, hD3, hU1, hU2, hU3] at hA hB hC hdd hwf hwf2 hl1 hl2 hl3 hle1 hle2 hle3
      have hlen : U1 + U2 = U3 := by rw [← hl1, ← hl2, ← hl3, ← hdd, List.length_append]
      clear hD1 hD2 hD3 hU1 hU2 hU3 hN hrr
      obtain ⟨i0, hi, hz0, hz1, hz2⟩ := info_parts int_info
      have Z2 := Lib.hid hz2
      have Z1 := Lib.hid hz1
      have Z0 := Lib.hid hz0
      have HDD := Lib.hid hdd
      have HW := Lib.hid hwf
      have HW2 := Lib.hid hwf2
      have HLen := Lib.hid hlen
      have HL1 := Lib.hid hl1
      have HL2 := Lib.hid hl2
      have HL3 := Lib.hid hl3
      clear hz0 hz1 hz2 hdd hwf hwf2 hlen hl1 hl2 hl3
      go_upto_region 13 with (first
        | (go_at_call 12; (with_reducible refine hA.mono ?_); rintro e w3 ⟨A1, c1, rfl, ho3, hn3⟩; have hb3 := hn3.below HT.out.1 HB.out (Nat.le_refl _) hsz; obtain ⟨va3, ht3, hc3⟩ := HT.out.now hn3; have ho3' := own_up ho3 (B' := w.heap.size) (fun q hq => Nat.le_trans hsz (ho3.lt q hq).1); have HO3 := Lib.hid ho3'; have HT3 := Lib.hid ht3; have HB3 := Lib.hid hb3; clear ho3 hn3 hb3 ht3 hc3 ho3'; have hB' := hB _ va3 HT3.out.1)
        | (go_at_call 12; (with_reducible refine hB'.mono ?_); rintro e w4 ⟨A2, c2, rfl, ho4, hn4⟩; have hb4 := hn4.below HT3.out.1 HB3.out (Nat.le_refl _) HB3.out.size; obtain ⟨va4, ht4, hc4⟩ := HT3.out.now hn4; have ho4' := own_up ho4 (B' := w.heap.size) (fun q hq => Nat.le_trans HB3.out.size (ho4.lt q hq).1); have ho34 := own_chg HO3.out hc4 (fun q hq => HT3.out.1.list HO3.out hq); have HO4 := Lib.hid ho4'; have HO34 := Lib.hid ho34; have HR4 := Lib.hid (IntRow.of_own ho4' HW2.out); have HT4 := Lib.hid ht4; have HB4 := Lib.hid hb4; clear ho4 hn4 hb4 ht4 hc4 ho4' ho34)
        | (at_builtin; refine wpList_append_grow _ rfl (.tmp 39) (.tmp 41) _ rfl w.heap.size 3 i0 _ 8 Try.underlying38 hi Z0.out Z1.out Z2.out rfl _ U1 (D1.map (.int .i64)) rfl HO34.out .i64 A2 U2 c2 D2 rfl HR4.out (by unfold maxLen; omega) (by omega) HB4.out.size ?_; intro A5 c5 w5 ho5 hg5))
      rw [← List.map_append, HDD.out] at ho5
      have hll := HLen.out
      simp only [hll] at ho5 ⊢
      clear hll
      have hT5 := HT4.out.chg (Chg.of_grown (S := fun k => (Value.slice A1 U1 c1).ownBlock = some k) hg5 (fun k hk => hk)) (fun k hk h => HT4.out.1.list HO34.out h hk) (fun k hk h => HT4.out.2.1.list HO34.out h hk)
      have hb5 := HB4.out.grown hg5 HB4.out.size (fun k hk => (HO34.out.lt k hk).1)
      have HO5 := Lib.hid ho5
      have HT5 := Lib.hid hT5.swap
      have HB5 := Lib.hid hb5
      clear ho5 hT5 hg5 hb5 HB3 HO3 HT3 HR4 HO34 HO4 HT4 HB4
      have hC' := hC _ _ HT5.out.1
      clear hA hB hB' hC
      have hLa := fun (W : World) (v : Value) (h : Tm W w.heap.size ga v N) => len_any W w.heap.size ga v N h
      have hLb := fun (W : World) (v : Value) (h : Tm W w.heap.size gb v N) => len_any W w.heap.size gb v N h
      go_wp2_with (first
        | (go_at_call 12; (with_reducible refine hC'.mono ?_); rintro e w6 ⟨A6, c6, rfl, ho6, hn6⟩; have hb6 := hn6.below HT5.out.1 HB5.out (Nat.le_refl _) HB5.out.size; obtain ⟨vb6, ht6, hc6⟩ := HT5.out.now hn6; have ho6' := own_up ho6 (B' := w.heap.size) (fun q hq => Nat.le_trans HB5.out.size (ho6.lt q hq).1); have ho56 := own_chg HO5.out hc6 (fun q hq => HT5.out.1.list HO5.out hq); have HO6 := Lib.hid ho6'; have HO56 := Lib.hid ho56; have hLa' := hLa _ _ ht6.2.1; have hLb' := hLb _ _ ht6.1; have HB6 := Lib.hid hb6; clear ho6 hn6 hb6 ht6 hc6 ho6' ho56 hLa hLb)
        | (go_at_call 14; (with_reducible refine hLa'.mono ?_); rintro e w' ⟨rfl, rfl⟩)
        | (go_at_call 14; (with_reducible refine hLb'.mono ?_); rintro e w' ⟨rfl, rfl⟩))
      clear hC' hLa' hLb'
      have HRx := Lib.hid (IntRow.of_own HO56.out HW.out)
      have HRy := Lib.hid (IntRow.of_own HO6.out HW.out)
      clear HO56 HO6 HO5 HT5 HB5
      go_loopw [57] (fun y wr => ∃ k m : Nat, k ≤ U3 ∧ y = .int .i64 k ∧ wr = w6.drewN m) (fun y _ => U3 - (intOf y).toNat)
      case atStart => exact ⟨0, 0, Nat.zero_le _, rfl, rfl⟩
      case round =>
        obtain ⟨k, m, hk, rfl, rfl⟩ := hrel
        by_cases hlt : k < U3
        · obtain ⟨bx, ox, rfl, _, hx⟩ := HRx.out.cell (by omega)
          obtain ⟨by', oy, rfl, _, hy⟩ := HRy.out.cell (by omega)
          have qx := hx k hlt
          have qy := hy k hlt
          obtain ⟨X, hX⟩ : ∃ X, D3.getD k 0 = X := ⟨_, rfl⟩
          rw [hX] at qx qy
          have hk0 : (0 : Int) ≤ (k : Int) := by omega
          have hkU : (k : Int) < (U3 : Int) := by omega
          clear hx hy hX
          go_upto_region 19 with fail
          go_quiet (fail)
          go_wp2
          go_roundw
          case rel => exact ⟨k + 1, _, by omega, by go_num, rfl⟩
          case measure => simp [intOf]; omega
        · go_wp2
          go_ret
          exact ⟨rfl, below_drewN HB6.out _⟩

set_option maxRecDepth 100000 in
theorem lifted (os : Os) (started : os.Started) (H : Type) (enc : TypeId × Value → H) :
    ReturnsInHanded {} Try.checked os 5 .any (Rows.timerSplitsSpec.pre6 enc Try.prog Try.f5 Rows.timerSplitsRow.domain false) (Rows.timerSplitsSpec.post enc Try.prog Try.f5 false true false false) := by
  refine returnsInHanded_of_change (C := Try.checked) own started (by kernel_rfl) Try.func5
    (ChangeSpec.witness6 (enc := enc) (C := Try.checked) false ⟨#[], #[.slice none 0 0, .int .i64 0, .int .i64 0], []⟩ 8 (by kernel_rfl) (by kernel_rfl) (by kernel_rfl) (by kernel_rfl)) ?_
  intro W base args ds gs before hval0 hW hcnd _
  have hval : ∀ (j : Nat) t v, Try.f5.params[j]? = some t → args[j]? = some v → Value.okWide Try.prog W .any base t v := hval0
  have hW' := hW
  obtain ⟨p, q, hA0, hV, rfl, hfz, hnd⟩ := hW
  have hA : DataW.TrodAll enc Try.prog W 0 (fun _ => true) true Try.f5.params.toList args.toList ds p := hA0
  have hAk := hA
  rw [Try.params5] at hA hval
  obtain ⟨v0, vs0, d0, ds0, p0, q0, hargs, rfl, hp, h0, r0⟩ := trodAll_cons hA
  obtain ⟨v1, vs1, d1, ds1, p1, q1, rfl, rfl, rfl, h1, r1⟩ := trodAll_cons r0
  obtain ⟨v2, vs2, d2, ds2, p2, q2, rfl, rfl, rfl, h2, r2⟩ := trodAll_cons r1
  obtain ⟨rfl, rfl, rfl⟩ := trodAll_nil r2
  obtain rfl : args = #[v0, v1, v2] := by cases args; simp_all
  obtain ⟨rfl, rfl⟩ := trodVars_none hV
  clear hA0 hval0 hargs
  simp only [List.append_nil] at hW'
  have hend : ∀ W' : World, Below W.heap.size W W' → Rows.timerSplitsSpec.post enc Try.prog Try.f5 false true false false W #[v0, v1, v2] (.bool true) W' := fun W' hb =>
    law_post (tb := 4) hW' hAk rfl (by kernel_rfl) (by kernel_rfl) (by kernel_rfl) Try.underlying4 rfl rfl rfl hb
  clear hW' hAk hp
  obtain ⟨A0, n0, c0, z0, rfl, w0⟩ := ints_arg Try.underlying38 Try.underlying3 (by kernel_rfl) (hval 0 38 v0 rfl rfl) h0
  obtain ⟨a1, rfl, rfl, rfl, w1⟩ := open_int Try.underlying3 (hval 1 3 v1 rfl rfl) h1
  obtain ⟨a2, rfl, rfl, rfl, w2⟩ := open_int Try.underlying3 (hval 2 3 v2 rfl rfl) h2
  refine (walk A0 n0 c0 z0 a1 a2 W w0 w1 w2).mono fun e W' ⟨he, hg⟩ => ?_
  subst he
  exact ⟨_, rfl, hend W' hg⟩

theorem over : Rows.timerSplitsRow.holds Try.pinned (OpenSpec.ofChange Rows.timerSplitsSpec) :=
  OpenClaim.holds_of_wide 5 Try.f5 rfl rfl rfl rfl rfl rfl rfl ⟨rfl, rfl, rfl, rfl, rfl⟩ rfl rfl rfl rfl rfl (by kernel_rfl) Try.func5 (by kernel_rfl)
    (of_decide_eq_true (by kernel_rfl)) (by unfold Func.isWrapper; first | (rw [if_pos (by decide +kernel)]; kernel_rfl) | (rw [if_neg (by decide +kernel)]; exact ⟨rfl, rfl⟩))
    (fun os started H enc _ => lifted os started H enc)

/-- THE STATEMENT -/
theorem proved : Rows.TimerSplitsSaid :=
  over
#print axioms proved
end Go.Proofs.Ytfpjicmmnhcfcaa.timerSplits
