/-
  Of all drifts and all rows of up to 200 steps: time never goes back, and two clocks that make as many steps go by no more than twice the drift a step apart.
  The walk is the prover's own; the frame of the row's step follows the kit's template.
-/
import Derived.Test.YtmocgdnikoaeiaaRows
import Derived.Test.YtmocgdnikoaeiaaLawKit
import Derived.Test.YtmocgdnikoaeiaaTickC
import Derived.LoopTactic
namespace Go.Proofs.Ytmocgdnikoaeiaa.tickApart
open Go.ChangeShapes Go.WideShapes Go.ChangeAt Go.RowKit Go.ChangeMaps Go.WideElems
set_option linter.unusedVariables false

theorem own : ownKnob Try.prog.godebug = none := by kernel_rfl
/-- Two clocks behind so many rounds, N of which were steps of both. -/
def Parted (gx gy : Nat) (d : Int) (w : World) (k : Nat) (N : Nat) (wr : World) : Prop :=
  ∃ X Y : Int, Clk wr gx d X ∧ Clk wr gy d Y ∧ 0 ≤ X ∧ 0 ≤ Y ∧ X ≤ 1010 * k ∧ Y ≤ 1010 * k ∧ X - Y ≤ 2 * (N : Int) * d ∧ -(2 * (N : Int) * d) ≤ X - Y ∧ N ≤ k ∧ Below w.heap.size w wr
theorem parted_more {gx gy : Nat} {d : Int} {w wr : World} {k N : Nat} (h : Parted gx gy d w k N wr) : Parted gx gy d w (k + 1) N wr := by
  obtain ⟨X, Y, h1, h2, h3, h4, h5, h6, h7, h8, h9, h10⟩ := h
  exact ⟨X, Y, h1, h2, h3, h4, by omega, by omega, h7, h8, by omega, h10⟩
theorem twice (N d : Int) : 2 * (N + 1) * d = 2 * N * d + 2 * d := by grind
theorem twice_neg (N d : Int) : -2 * (N + 1) * d = -(2 * N * d + 2 * d) := by grind
theorem twice_bd (N : Nat) (d : Int) (h0 : 0 ≤ d) (h1 : d ≤ 10) (hN : N ≤ 200) : 0 ≤ 2 * (N : Int) * d ∧ 2 * (N : Int) * d ≤ 4000 :=
  ⟨Int.mul_nonneg (by omega) h0, by
    have := Int.mul_le_mul (a := 2 * (N : Int)) (b := d) (c := 400) (d := 10) (by omega) h1 h0 (by omega)
    omega⟩
theorem range_i64 {zs : List Int} (h : ∀ n ∈ zs, (Lit.int .i64 n).wf = true) (k : Nat) : Fits (zs[k]?.getD 0) := by
  rcases Nat.lt_or_ge k zs.length with hk | hk
  · rw [List.getElem?_eq_getElem hk]
    exact fits_wf (h _ (List.getElem_mem hk))
  · rw [List.getElem?_eq_none hk]
    exact ⟨by decide, by decide⟩
set_option maxHeartbeats 4000000 in
set_option maxRecDepth 100000 in
theorem walk (a0 : Int) (A1 : Option Addr) (n1 c1 : Nat) (z1 : List Int) (A2 : Option Addr) (n2 c2 : Nat) (z2 : List Int) (w : World) (w0 : (Lit.int .i64 a0).wf = true) (w1 : IntRow w .i64 A1 n1 c1 z1) (w2 : IntRow w .i64 A2 n2 c2 z2) :
    Calls Try.prog 4 #[.int .i64 a0, .slice A1 n1 c1, .slice A2 n2 c2] w fun e w' => e = .returned (.bool true) ∧ Below w.heap.size w w' := by
  by_cases h0 : a0 < 0
  · go_enter Try.func4, Try.ntmps4
    go_wp2_with (first
      | ((go_at_call 6; refine (alive_yes _).mono ?_; rintro e w1 ⟨rfl, hb1⟩)))
    go_ret
    exact ⟨rfl, hb1⟩
  by_cases h1 : 10 < a0
  · go_enter Try.func4, Try.ntmps4
    go_wp2_with (first
      | ((go_at_call 6; refine (alive_yes _).mono ?_; rintro e w1 ⟨rfl, hb1⟩)))
    go_ret
    exact ⟨rfl, hb1⟩
  by_cases h2 : 200 < n1
  · go_enter Try.func4, Try.ntmps4
    go_wp2_with (first
      | ((go_at_call 6; refine (alive_yes _).mono ?_; rintro e w1 ⟨rfl, hb1⟩)))
    go_ret
    exact ⟨rfl, hb1⟩
  by_cases h3 : n2 < n1
  · go_enter Try.func4, Try.ntmps4
    go_wp2_with (first
      | ((go_at_call 6; refine (alive_yes _).mono ?_; rintro e w1 ⟨rfl, hb1⟩)))
    go_ret
    exact ⟨rfl, hb1⟩
  have R1 := Lib.hid w1
  have R2 := Lib.hid w2
  have hmx := w1.max
  have hcap := w1.cap_le
  have hmx2 := w2.max
  have hcap2 := w2.cap_le
  unfold maxLen at hmx hmx2
  clear w1 w2
  go_enter Try.func4, Try.ntmps4
  go_wp2_with (first
    | (go_at_call 6; refine (alive_yes _).mono ?_; rintro e w1 ⟨rfl, hb1⟩)
    | (go_at_call 7; first | (have tok : Clk w2 w1.heap.size a0 0 := hc2; refine (new_yes a0 _ (by omega) (by omega)).mono ?_; rintro e w3 ⟨rfl, hc3, hb3⟩) | (refine (new_yes a0 _ (by omega) (by omega)).mono ?_; rintro e w2 ⟨rfl, hc2, hb2⟩)))
  have hbb : Below w.heap.size w w3 := (hb1.trans (hb2.mono hb1.size)).trans (hb3.mono (Nat.le_trans hb1.size hb2.size))
  have hx3 : Clk w3 w1.heap.size a0 0 := Holds.below hc2 hb3 hc2.lt
  have hne : w1.heap.size < w2.heap.size := hc2.lt
  have hwx : w.heap.size ≤ w1.heap.size := hb1.size
  clear hb1 hb2 hb3 hc2
  obtain ⟨gx, hgx⟩ : ∃ gx, w1.heap.size = gx := ⟨_, rfl⟩
  obtain ⟨gy, hgy⟩ : ∃ gy, w2.heap.size = gy := ⟨_, rfl⟩
  rw [hgx] at hx3 hwx hne
  rw [hgy] at hc3 hne
  have hpart : Parted gx gy a0 w 0 0 w3 := ⟨0, 0, hx3, hc3, by omega, by omega, by omega, by omega, by omega, by omega, by omega, hbb⟩
  simp only [hgx, hgy]
  clear hgx hgy hx3 hc3 hbb
  go_loopw [11, 48] (fun n i wr => ∃ k N : Nat, k ≤ n1 ∧ i = .int .i64 k ∧ n = .int .i64 N ∧ Parted gx gy a0 w k N wr) (fun _ i _ => n1 - (intOf i).toNat)
  case atStart => exact ⟨0, 0, Nat.zero_le _, rfl, rfl, hpart⟩
  case round =>
    obtain ⟨k, N, hk, rfl, rfl, hp⟩ := hrel
    clear hpart
    have HP := Lib.hid hp
    obtain ⟨X, Y, hx, hy, x0, y0, x1, y1, d1, d2, hN, hb⟩ := hp
    by_cases hlt : k < n1
    · obtain ⟨b, off, rfl, hb', hc⟩ := (R1.out.below hb).cell (by omega)
      obtain ⟨b2, off2, rfl, hb2', hc2⟩ := R2.out.cell (by omega)
      have hck := hc k hlt
      have hck0 := hc2 k (by omega)
      have hck2 := (hb.cell (p := ⟨b2, off2 + k, none⟩) hb2').trans hck0
      rw [List.getD_eq_getElem?_getD] at hck hck2 hck0
      obtain ⟨z1a, z1b⟩ := range_i64 R1.out.wf k
      obtain ⟨z2a, z2b⟩ := range_i64 R2.out.wf k
      obtain ⟨Z1, hZ1⟩ : ∃ Z, z1[k]?.getD 0 = Z := ⟨_, rfl⟩
      obtain ⟨Z2, hZ2⟩ : ∃ Z, z2[k]?.getD 0 = Z := ⟨_, rfl⟩
      rw [hZ1] at hck z1a z1b
      rw [hZ2] at hck2 hck0 z2a z2b
      have HK0 := Lib.hid hck0
      clear hck0
      have fx := fits_any gx a0 X Z1 wr hx (by omega) (by omega)
      have fy := fits_any gy a0 Y Z2 wr hy (by omega) (by omega)
      have HX := Lib.hid hx
      have HY := Lib.hid hy
      clear hc hc2 hZ1 hZ2 hx hy
      cases hf : fitsB a0 Z1 with
      | false =>
        rw [hf] at fx
        clear hf fy d1 d2
        go_wp2_with (go_at_call 10; ((with_reducible refine fx.mono ?_); rintro e w4 ⟨rfl, rfl⟩))
        go_roundw
        case rel => exact ⟨k + 1, N, by omega, by go_num, rfl, parted_more HP.out⟩
        case measure => simp [intOf]; omega
      | true =>
        rw [hf] at fx
        cases hf2 : fitsB a0 Z2 with
        | false =>
          rw [hf2] at fy
          clear hf hf2 d1 d2
          go_wp2_with (go_at_call 10; first | ((with_reducible refine fx.mono ?_); rintro e w4 ⟨rfl, rfl⟩) | ((with_reducible refine fy.mono ?_); rintro e w4 ⟨rfl, rfl⟩))
          go_roundw
          case rel => exact ⟨k + 1, N, by omega, by go_num, rfl, parted_more HP.out⟩
          case measure => simp [intOf]; omega
        | true =>
          rw [hf2] at fy
          obtain ⟨t1, t2⟩ := fitsB_yes hf
          obtain ⟨t3, t4⟩ := fitsB_yes hf2
          have nowx := now_any gx a0 X wr HX.out
          have gox := go_any gx a0 X Z1 wr HX.out (by omega) (by omega) x0 (by omega)
          have goy := fun W (h : Clk W gy a0 Y) => go_any gy a0 Y Z2 W h (by omega) (by omega) y0 (by omega)
          unfold Stepped at gox goy
          have ev : goV a0 X Z1 = 0 := by simp [goV, hf]; omega
          have en : goN a0 X Z1 = X + Z1 := by simp [goN, hf]; omega
          have ev2 : goV a0 Y Z2 = 0 := by simp [goV, hf2]; omega
          have en2 : goN a0 Y Z2 = Y + Z2 := by simp [goN, hf2]; omega
          rw [ev, en] at gox
          simp only [ev2, en2] at goy
          have tw := twice N a0
          have tn := twice_neg N a0
          obtain ⟨tb1, tb2⟩ := twice_bd (N + 1) a0 (by omega) (by omega) (by omega)
          have e1 : ((N + 1 : Nat) : Int) = (N : Int) + 1 := by omega
          rw [e1] at tb1 tb2
          have q1 : (X + Z1) - (Y + Z2) ≤ 2 * ((N : Int) + 1) * a0 := by omega
          have q2 : -2 * ((N : Int) + 1) * a0 ≤ (X + Z1) - (Y + Z2) := by omega
          have q3 : -(2 * ((N : Int) + 1) * a0) ≤ (X + Z1) - (Y + Z2) := by omega
          have q4 : -4000 ≤ -2 * ((N : Int) + 1) * a0 := by omega
          have q5 : -2 * ((N : Int) + 1) * a0 ≤ 0 := by omega
          have q6 : -4000 ≤ -2 * ((N : Int) + 1) := by omega
          clear ev en ev2 en2 hf hf2 tw tn e1 d1 d2
          go_wp2_with (first
            | (go_at_call 10; first | ((with_reducible refine fx.mono ?_); rintro e w4 ⟨rfl, rfl⟩) | ((with_reducible refine fy.mono ?_); rintro e w4 ⟨rfl, rfl⟩))
            | (go_at_call 9; first | ((with_reducible refine gox.mono ?_); rintro e w5 ⟨rfl, hx5, hb5⟩; have hy5 : Clk w5 gy a0 Y := Holds.grown HY.out hb5 (by simp; omega); have hbw5 : Below w.heap.size w w5 := hb.grown hb5 hb.size (fun k hk => by simp at hk; omega); have hck5 := (hbw5.cell (p := ⟨b2, off2 + k, none⟩) hb2').trans HK0.out) | ((with_reducible refine (goy _ hy5).mono ?_); rintro e w6 ⟨rfl, hy6, hb6⟩; have hx6 : Clk w6 gx a0 (X + Z1) := Holds.grown hx5 hb6 (by simp; omega)))
            | (go_at_call 11; first | ((with_reducible refine nowx.mono ?_); rintro e w7 ⟨rfl, rfl⟩) | ((with_reducible refine (now_any gx a0 (X + Z1) _ hx6).mono ?_); rintro e w8 ⟨rfl, rfl⟩) | ((with_reducible refine (now_any gy a0 (Y + Z2) _ hy6).mono ?_); rintro e w8 ⟨rfl, rfl⟩)))
          go_roundw
          case rel => exact ⟨k + 1, N + 1, by omega, by go_num, by go_num, X + Z1, Y + Z2, hx6, hy6, by omega, by omega, by omega, by omega, q1, q3, by omega, (hb.grown hb5 hb.size (fun k hk => by simp at hk; omega)).grown hb6 (Nat.le_trans hb.size hb5.size) (fun k hk => by simp at hk; omega)⟩
          case measure => simp [intOf]; omega
    · go_wp2
      go_ret
      exact ⟨rfl, hb⟩

set_option maxRecDepth 100000 in
theorem lifted (os : Os) (started : os.Started) (H : Type) (enc : TypeId × Value → H) :
    ReturnsInHanded {} Try.checked os 4 .any (Rows.tickApartSpec.pre6 enc Try.prog Try.f4 Rows.tickApartRow.domain false) (Rows.tickApartSpec.post enc Try.prog Try.f4 false true false false) := by
  refine returnsInHanded_of_change (C := Try.checked) own started (by kernel_rfl) Try.func4
    (ChangeSpec.witness6 (enc := enc) (C := Try.checked) false ⟨#[], #[.int .i64 0, .slice none 0 0, .slice none 0 0], []⟩ 8 (by kernel_rfl) (by kernel_rfl) (by kernel_rfl) (by kernel_rfl)) ?_
  intro W base args ds gs before hval0 hW hcnd _
  have hval : ∀ (j : Nat) t v, Try.f4.params[j]? = some t → args[j]? = some v → Value.okWide Try.prog W .any base t v := hval0
  have hW' := hW
  obtain ⟨p, q, hA0, hV, rfl, hfz, hnd⟩ := hW
  have hA : DataW.TrodAll enc Try.prog W 0 (fun _ => true) true Try.f4.params.toList args.toList ds p := hA0
  have hAk := hA
  rw [Try.params4] at hA hval
  obtain ⟨v0, vs0, d0, ds0, p0, q0, hargs, rfl, hp, h0, r0⟩ := trodAll_cons hA
  obtain ⟨v1, vs1, d1, ds1, p1, q1, rfl, rfl, rfl, h1, r1⟩ := trodAll_cons r0
  obtain ⟨v2, vs2, d2, ds2, p2, q2, rfl, rfl, rfl, h2, r2⟩ := trodAll_cons r1
  obtain ⟨rfl, rfl, rfl⟩ := trodAll_nil r2
  obtain rfl : args = #[v0, v1, v2] := by cases args; simp_all
  obtain ⟨rfl, rfl⟩ := trodVars_none hV
  clear hA0 hval0 hargs
  simp only [List.append_nil] at hW'
  have hend : ∀ W' : World, Below W.heap.size W W' → Rows.tickApartSpec.post enc Try.prog Try.f4 false true false false W #[v0, v1, v2] (.bool true) W' := fun W' hb =>
    law_post (tb := 4) hW' hAk rfl (by kernel_rfl) (by kernel_rfl) (by kernel_rfl) Try.underlying4 rfl rfl rfl hb
  clear hW' hAk hp
  obtain ⟨a0, rfl, rfl, rfl, w0⟩ := open_int Try.underlying3 (hval 0 3 v0 rfl rfl) h0
  obtain ⟨A1, n1, c1, z1, rfl, w1⟩ := ints_arg Try.underlying41 Try.underlying3 (by kernel_rfl) (hval 1 41 v1 rfl rfl) h1
  obtain ⟨A2, n2, c2, z2, rfl, w2⟩ := ints_arg Try.underlying41 Try.underlying3 (by kernel_rfl) (hval 2 41 v2 rfl rfl) h2
  refine (walk a0 A1 n1 c1 z1 A2 n2 c2 z2 W w0 w1 w2).mono fun e W' ⟨he, hg⟩ => ?_
  subst he
  exact ⟨_, rfl, hend W' hg⟩

theorem over : Rows.tickApartRow.holds Try.pinned (OpenSpec.ofChange Rows.tickApartSpec) :=
  OpenClaim.holds_of_wide 4 Try.f4 rfl rfl rfl rfl rfl rfl rfl ⟨rfl, rfl, rfl, rfl, rfl⟩ rfl rfl rfl rfl rfl (by kernel_rfl) Try.func4 (by kernel_rfl)
    (of_decide_eq_true (by kernel_rfl)) (by unfold Func.isWrapper; first | (rw [if_pos (by decide +kernel)]; kernel_rfl) | (rw [if_neg (by decide +kernel)]; exact ⟨rfl, rfl⟩))
    (fun os started H enc _ => lifted os started H enc)

/-- THE STATEMENT -/
theorem proved : Rows.TickApartSaid :=
  over
#print axioms proved
end Go.Proofs.Ytmocgdnikoaeiaa.tickApart
