/-
  What was pushed to a row is popped once, in the order in which it was pushed, and there are never more in it than there is room for: the law answers true, whatever the input.
  The walk is the prover's own; the frame of the row's step follows the kit's template.
-/
import Derived.Test.YtcbfpejlbbgdjaaRows
import Derived.Test.YtcbfpejlbbgdjaaLawKit
import Derived.Test.YtcbfpejlbbgdjaaRgE
import Derived.LoopTactic
import Derived.Deep.CutBlock
namespace Go.Proofs.Ytcbfpejlbbgdjaa.ringOnce
open Go.ChangeShapes Go.WideShapes Go.ChangeAt Go.RowKit Go.ChangeMaps Go.WideElems
set_option linter.unusedVariables false

theorem own : ownKnob Try.prog.godebug = none := by kernel_rfl
set_option linter.unusedSimpArgs false in
set_option maxHeartbeats 4000000 in
set_option maxRecDepth 100000 in
theorem walk (a0 : Int) (A1 : Option Addr) (n1 c1 : Nat) (z1 : List Int) (A2 : Option Addr) (n2 c2 : Nat) (z2 : List Int) (w : World) (w0 : (Lit.int .i64 a0).wf = true) (w1 : IntRow w .i64 A1 n1 c1 z1) (w2 : IntRow w .i64 A2 n2 c2 z2) :
    Calls Try.prog 4 #[.int .i64 a0, .slice A1 n1 c1, .slice A2 n2 c2] w fun e w' => e = .returned (.bool true) ∧ Below w.heap.size w w' := by
  by_cases h1 : a0 < 1
  · go_enter Try.func4, Try.ntmps4
    go_wp2_with (first
      | ((go_at_call 7; refine (alive_yes _).mono ?_; rintro e w1 ⟨rfl, hb1⟩))
      | ((go_at_call 8; refine (hnew _).mono ?_; rintro e w2 ⟨rfl, hr2, hb2, hs2⟩)))
    go_ret
    exact ⟨rfl, hb1⟩
  have d1 : decide (a0 < 1) = false := decide_eq_false h1
  by_cases h2 : 64 < a0
  · go_enter Try.func4, Try.ntmps4
    go_wp2_with (first
      | ((go_at_call 7; refine (alive_yes _).mono ?_; rintro e w1 ⟨rfl, hb1⟩))
      | ((go_at_call 8; refine (hnew _).mono ?_; rintro e w2 ⟨rfl, hr2, hb2, hs2⟩)))
    go_ret
    exact ⟨rfl, hb1⟩
  have d2 : decide (64 < a0) = false := decide_eq_false h2
  by_cases h3 : 300 < n1
  · have d3 : decide ((300 : Int) < (n1 : Int)) = true := decide_eq_true (by omega)
    go_enter Try.func4, Try.ntmps4
    go_wp2_with (first
      | ((go_at_call 7; refine (alive_yes _).mono ?_; rintro e w1 ⟨rfl, hb1⟩))
      | ((go_at_call 8; refine (hnew _).mono ?_; rintro e w2 ⟨rfl, hr2, hb2, hs2⟩)))
    go_ret
    exact ⟨rfl, hb1⟩
  have d3 : decide ((300 : Int) < (n1 : Int)) = false := decide_eq_false (by omega)
  by_cases h4 : n2 < n1
  · have d4 : decide ((n2 : Int) < (n1 : Int)) = true := decide_eq_true (by omega)
    go_enter Try.func4, Try.ntmps4
    go_wp2_with (first
      | ((go_at_call 7; refine (alive_yes _).mono ?_; rintro e w1 ⟨rfl, hb1⟩))
      | ((go_at_call 8; refine (hnew _).mono ?_; rintro e w2 ⟨rfl, hr2, hb2, hs2⟩)))
    go_ret
    exact ⟨rfl, hb1⟩
  have d4 : decide ((n2 : Int) < (n1 : Int)) = false := decide_eq_false (by omega)
  obtain ⟨room, rfl⟩ : ∃ room : Nat, a0 = room := ⟨a0.toNat, by omega⟩
  have hnew := fun W => RI.new_any W room (by omega) (by omega)
  have R1 := Lib.hid w1
  have R2 := Lib.hid w2
  clear w0 w1 w2
  go_enter Try.func4, Try.ntmps4
  go_wp2_with (first
    | ((go_at_call 7; refine (alive_yes _).mono ?_; rintro e w1 ⟨rfl, hb1⟩))
    | ((go_at_call 8; refine (hnew _).mono ?_; rintro e w2 ⟨rfl, hr2, hb2, hs2⟩)))
  obtain ⟨b, hbb⟩ : ∃ b, w1.heap.size = b := ⟨_, rfl⟩
  rw [hbb] at hr2 hs2
  simp only [hbb]
  have hwb : w.heap.size ≤ b := by rw [← hbb]; exact hb1.size
  have HB0 := Lib.hid (hb1.trans (hb2.mono hb1.size))
  have HR0 := Lib.hid hr2
  have HO0 := Lib.hid (World.ownsRow_nil w2 (b + 2) 3 1)
  have hs2' : b + 2 ≤ w2.heap.size := by omega
  obtain ⟨i0, hi, H0⟩ : ∃ i, Try.prog.info? 3 = some i ∧ i.zero = some (.int .i64 0) ∧ i.size = 1 ∧ i.bytes = 8 := by
    obtain ⟨i, hi, hzz⟩ := Option.map_eq_some_iff.1 RI.t_info
    simp only [Prod.mk.injEq] at hzz
    exact ⟨i, hi, hzz⟩
  have HI := Lib.hid hi
  have HI0 := Lib.hid H0
  clear hb1 hb2 hr2 hbb hs2 hi H0 hnew
  go_loopw [9, 10, 43] (fun x y z wr => ∃ (k : Nat) (A : Option Addr) (c n : Nat) (P L : List Int), k ≤ n1 ∧ n ≤ k ∧ (P ++ L).length = n ∧ z = .int .i64 (k : Int) ∧ y = .slice A n c ∧ x = .int .i64 (P.length : Int) ∧ RI.Rg wr b (b + 1) b room L ∧ wr.ownsRow (b + 2) 3 1 (.slice A n c) n ((P ++ L).map (.int .i64)) ∧ Below w.heap.size w wr ∧ b + 2 ≤ wr.heap.size) (fun _ _ z _ => n1 - (intOf z).toNat)
  case atStart => exact ⟨0, none, 0, 0, [], [], Nat.zero_le _, Nat.le_refl _, rfl, rfl, rfl, rfl, HR0.out, HO0.out, HB0.out, hs2'⟩
  case round =>
    obtain ⟨k, A, c, n, P, L, hk, hnk, hlen, rfl, rfl, rfl, hR, hO, hB, hsz⟩ := hrel
    clear HR0 HO0 HB0 hs2'
    have HR := Lib.hid hR
    have HO := Lib.hid hO
    have HB := Lib.hid hB
    have HLen := Lib.hid hlen
    by_cases hlt : k < n1
    · obtain ⟨b1, off1, rfl, hbw1, hc1⟩ := R1.out.cell (by omega)
      have q1 := (HB.out.cell (p := ⟨b1, off1 + k, none⟩) hbw1).trans (hc1 k hlt)
      rw [List.getD_eq_getElem?_getD] at q1
      obtain ⟨X, hX⟩ : ∃ X, z1[k]?.getD 0 = X := ⟨_, rfl⟩
      rw [hX] at q1
      clear hc1 hX hR hO hB hlen
      by_cases hlr : L.length < room
      case' pos =>
        have hpush := RI.push_any wr b (b + 1) b room L X HR.out hlr
        go_upto_region 13 with (first
          | (go_at_call 11; (with_reducible refine hpush.mono ?_); rintro e w3 ⟨rfl, hR3, hc3⟩; have HB3 := Lib.hid ((rg_below HR.out HB.out hc3 hwb).alloc (rg_below HR.out HB.out hc3 hwb).size (.cells #[.int .i64 X] 3)); have HR3 := Lib.hid (hR3.below (below_alloc w3 (.cells #[.int .i64 X] 3))); have hO3 := own_keep (own_chg HO.out hc3 (ring_apart HO.out)) (below_alloc w3 (.cells #[.int .i64 X] 3)); have HO3 := Lib.hid hO3; have hs3 : b + 2 ≤ (w3.alloc (.cells #[.int .i64 X] 3)).heap.size := (by have := hc3.size; simp; omega); clear hR3 hc3 hO3)
          | (at_builtin; refine wpList_append_rowK _ rfl (.tmp 52) (.tmp 54) _ rfl (b + 2) 3 i0 _ 1 8 Try.underlying34 HI.out HI0.out.1 HI0.out.2.1 HI0.out.2.2 rfl (by omega) _ n _ rfl HO3.out ⟨w3.heap.size, 0, none⟩ 1 1 [.int .i64 X] rfl rfl (one_at w3 X) (by simp [Value.oneCell']) (by unfold maxLen; omega) (by omega) hs3 ?_; intro A4 c4 w4 hO4 hg4 hp4))
        have hc4 : Chg (fun q => b + 2 ≤ q) (w3.alloc (.cells #[.int .i64 X] 3)) w4 := Chg.of_grown hg4 (fun q hq => (HO3.out.lt q hq).1)
        have HR4 := Lib.hid (HR3.out.chg hc4 (by omega) (by omega))
        have HB4 := Lib.hid (Below.chg HB3.out hc4 HB3.out.size (fun q hq => by omega))
        have hs4 : b + 2 ≤ w4.heap.size := Nat.le_trans hs3 hc4.size
        obtain ⟨L4, hL4⟩ : ∃ L4, L ++ [X] = L4 := ⟨_, rfl⟩
        have hlen4 : (P ++ L4).length = n + 1 := by rw [← hL4, ← List.append_assoc, List.length_append, HLen.out]; rfl
        have hO4' : w4.ownsRow (b + 2) 3 1 (.slice A4 (n + 1) c4) (n + 1) ((P ++ L4).map (.int .i64)) := by
          rw [← hL4, ← List.append_assoc, List.map_append]
          exact hO4
        rw [hL4] at HR4
        obtain ⟨n4, hn4⟩ : ∃ n4, n + 1 = n4 := ⟨_, rfl⟩
        have hnk4 : n4 ≤ k + 1 := by omega
        rw [hn4] at hlen4 hO4' ⊢
        have HO4 := Lib.hid hO4'
        have HLen4 := Lib.hid hlen4
        clear hc4 hg4 hp4 hO4 hO4' hlen4 HR3 HO3 HB3 hn4 hL4 hpush hlr HR HO HB HLen hs3 hsz
      case' neg =>
        have hfull := RI.push_full wr b (b + 1) b room L X HR.out (by have := HR.out.len; omega)
        go_upto_region 13 with (go_at_call 11; (with_reducible refine hfull.mono ?_); rintro e w4 ⟨rfl, hb4⟩)
        have HR4 := Lib.hid (HR.out.below hb4)
        have HB4 := Lib.hid (HB.out.trans (hb4.mono HB.out.size))
        have hs4 : b + 2 ≤ w4.heap.size := Nat.le_trans hsz hb4.size
        have HO4 := Lib.hid (own_keep HO.out hb4)
        have HLen4 := HLen
        have hnk4 : n ≤ k + 1 := by omega
        obtain ⟨n4, rfl⟩ : ∃ n4, n4 = n := ⟨_, rfl⟩
        obtain ⟨A4, rfl⟩ : ∃ A4, A4 = A := ⟨_, rfl⟩
        obtain ⟨c4, rfl⟩ : ∃ c4, c4 = c := ⟨_, rfl⟩
        obtain ⟨L4, rfl⟩ : ∃ L4, L4 = L := ⟨_, rfl⟩
        clear hfull hlr HR HO HB HLen hb4 hsz
      all_goals
        obtain ⟨b2, off2, rfl, hbw2, hc2⟩ := R2.out.cell (by omega)
        have q2 := hc2 k (by omega)
        rw [List.getD_eq_getElem?_getD] at q2
        obtain ⟨V, hV⟩ : ∃ V, z2[k]?.getD 0 = V := ⟨_, rfl⟩
        rw [hV] at q2
        have Q2 := Lib.hid q2
        have hk2 : (k : Int) < (n2 : Int) := by omega
        clear hc2 hV q1 q2
        go_wp2
        go_loopw [9, 13] (fun x y ws => ∃ (j : Nat) (P2 L2 : List Int), j ≤ 3 ∧ y = .int .i64 (j : Int) ∧ x = .int .i64 (P2.length : Int) ∧ P ++ L4 = P2 ++ L2 ∧ RI.Rg ws b (b + 1) b room L2 ∧ ws.ownsRow (b + 2) 3 1 (.slice A4 n4 c4) n4 ((P ++ L4).map (.int .i64)) ∧ Below w.heap.size w ws ∧ b + 2 ≤ ws.heap.size) (fun _ y _ => 3 - (intOf y).toNat)
        case atStart => exact ⟨0, P, L4, by omega, rfl, rfl, rfl, HR4.out, HO4.out, HB4.out, hs4⟩
        case round =>
          obtain ⟨j, P2, L2, hj, rfl, rfl, hPL, hR, hO, hB, hsz⟩ := hrel
          have HR := Lib.hid hR
          have HO := Lib.hid hO
          have HB := Lib.hid hB
          have HPL := Lib.hid hPL
          have q2 := (hB.cell (p := ⟨b2, off2 + k, none⟩) hbw2).trans Q2.out
          have hl2 : P2.length + L2.length = n4 := by rw [← List.length_append, ← hPL, HLen4.out]
          have hlr := hR.len
          clear HR4 HO4 HB4 hs4 hR hO hB hPL
          by_cases hV : (j : Int) < V
          · have dV : decide ((j : Int) < V) = true := decide_eq_true hV
            by_cases hj3 : j < 3
            · have d3 : decide ((j : Int) < 3) = true := decide_eq_true (by omega)
              match L2, HR, hl2, hlr, HPL with
              | [], HR, hl2, hlr, HPL =>
                have hpop := RI.pop_none wr b (b + 1) b room HR.out
                go_wp2_with (go_at_call 10; (with_reducible refine hpop.mono ?_); rintro e w5 ⟨rfl, rfl⟩)
                go_roundw
                case rel => exact ⟨j + 1, P2, [], by omega, by go_num, rfl, HPL.out, HR.out, HO.out, HB.out, hsz⟩
                case measure => simp [intOf]; omega
              | y :: R, HR, hl2, hlr, HPL =>
                have hpop := RI.pop_any wr b (b + 1) b room y R HR.out
                rw [List.length_cons] at hl2 hlr
                obtain ⟨g4, rfl, _⟩ := own_form HO.out (by omega)
                have hy : (P ++ L4)[P2.length]?.getD 0 = y := by rw [HPL.out]; simp
                have hlq : (P2 ++ [y]).length = P2.length + 1 := by simp
                have HLQ := Lib.hid hlq
                obtain ⟨p, hp⟩ : ∃ p, P2.length = p := ⟨_, rfl⟩
                rw [hp] at hl2 hy HLQ
                simp only [hp]
                have HY := Lib.hid hy
                have hpn : p < n4 := by omega
                have dp : decide ((n4 : Int) ≤ (p : Int)) = false := decide_eq_false (by omega)
                have hpi : (p : Int) < (n4 : Int) := by omega
                have ep := IntWalk.i64_in ((p : Int) + 1) (by omega)
                have dyy : (y != y) = false := by simp
                clear hp hy hlq
                go_wp2_with (go_at_call 10; (with_reducible refine hpop.mono ?_); rintro e w5 ⟨rfl, hR5, hc5⟩; have hO5 := own_chg HO.out hc5 (ring_apart HO.out); have cy := own_cell hO5 hpn; rw [HY.out] at cy; have HR5 := Lib.hid hR5; have HO5 := Lib.hid hO5; have HB5 := Lib.hid (rg_below HR.out HB.out hc5 hwb); have hs5 := Nat.le_trans hsz hc5.size; clear hR5 hO5 hc5)
                go_roundw
                case rel => exact ⟨j + 1, P2 ++ [y], R, by omega, by go_num, by rw [HLQ.out]; go_num, by rw [List.append_assoc]; exact HPL.out, HR5.out, HO5.out, HB5.out, hs5⟩
                case measure => simp [intOf]; omega
            · have d3 : decide ((j : Int) < 3) = false := decide_eq_false (by omega)
              have hlen2 := RI.len_any wr b (b + 1) b room L2 HR.out
              obtain ⟨p, hp⟩ : ∃ p, P2.length = p := ⟨_, rfl⟩
              obtain ⟨l, hl⟩ : ∃ l, L2.length = l := ⟨_, rfl⟩
              rw [hl] at hlen2 hl2 hlr
              rw [hp] at hl2
              simp only [hp]
              have HP := Lib.hid hp
              have ew : IntKind.i64.wrap ((n4 : Int) - (p : Int)) = (l : Int) := by
                rw [IntWalk.i64_in _ (by omega)]
                omega
              have dne : ((l : Int) != (l : Int)) = false := by simp
              have dr : decide (room < l) = false := decide_eq_false (by omega)
              have dr2 : ¬ room < l := by omega
              clear hp hl hl2 hlr Q2
              go_wp2_with (go_at_call 12; (with_reducible refine hlen2.mono ?_); rintro e w6 ⟨rfl, rfl⟩)
              go_roundw
              case rel => exact ⟨k + 1, A4, c4, n4, P2, L2, by omega, hnk4, by rw [← HPL.out]; exact HLen4.out, by go_num, rfl, by rw [HP.out], HR.out, by rw [← HPL.out]; exact HO.out, HB.out, hsz⟩
              case measure => simp [intOf]; omega
          · have dV : decide ((j : Int) < V) = false := decide_eq_false hV
            have hlen2 := RI.len_any wr b (b + 1) b room L2 HR.out
            obtain ⟨p, hp⟩ : ∃ p, P2.length = p := ⟨_, rfl⟩
            obtain ⟨l, hl⟩ : ∃ l, L2.length = l := ⟨_, rfl⟩
            rw [hl] at hlen2 hl2 hlr
            rw [hp] at hl2
            simp only [hp]
            have HP := Lib.hid hp
            have ew : IntKind.i64.wrap ((n4 : Int) - (p : Int)) = (l : Int) := by
              rw [IntWalk.i64_in _ (by omega)]
              omega
            have dne : ((l : Int) != (l : Int)) = false := by simp
            have dr : decide (room < l) = false := decide_eq_false (by omega)
            have dr2 : ¬ room < l := by omega
            clear hp hl hl2 hlr Q2
            go_wp2_with (go_at_call 12; (with_reducible refine hlen2.mono ?_); rintro e w6 ⟨rfl, rfl⟩)
            go_roundw
            case rel => exact ⟨k + 1, A4, c4, n4, P2, L2, by omega, hnk4, by rw [← HPL.out]; exact HLen4.out, by go_num, rfl, by rw [HP.out], HR.out, by rw [← HPL.out]; exact HO.out, HB.out, hsz⟩
            case measure => simp [intOf]; omega
    · clear hR hO hB
      go_wp2
      go_ret
      exact ⟨rfl, HB.out⟩

set_option maxRecDepth 100000 in
theorem lifted (os : Os) (started : os.Started) (H : Type) (enc : TypeId × Value → H) :
    ReturnsInHanded {} Try.checked os 4 .any (Rows.ringOnceSpec.pre6 enc Try.prog Try.f4 Rows.ringOnceRow.domain false) (Rows.ringOnceSpec.post enc Try.prog Try.f4 false true false false) := by
  refine returnsInHanded_of_change (C := Try.checked) own started (by kernel_rfl) Try.func4
    (ChangeSpec.witness6 (enc := enc) (C := Try.checked) false ⟨#[], #[.int .i64 0, .slice none 0 0, .slice none 0 0], []⟩ 8 (by kernel_rfl) (by kernel_rfl) (by kernel_rfl) (by kernel_rfl)) ?_
  intro W base args ds gs before hval0 hW hcnd _
  have hval : ∀ (j : Nat) t v, Try.f4.params[j]? = some t → args[j]? = some v → Value.okWide Try.prog W .any base t v := hval0
  have hW' := hW
  obtain ⟨p, q, hA0, hV, rfl, hfz, hnd⟩ := hW
  have hA : DataW.TrodAll enc Try.prog W 0 (fun _ => true) true Try.f4.params.toList args.toList ds p := hA0
  have hAk := hA
  rw [Try.params4] at hA hval
  obtain ⟨v0, vs0, d0, ds0, p0, q0, hargs, rfl, hp, h0, r0⟩ := trodAll_cons hA
  obtain ⟨v1, vs1, d1, ds1, p1, q1, rfl, rfl, rfl, h1, r1⟩ := trodAll_cons r0
  obtain ⟨v2, vs2, d2, ds2, p2, q2, rfl, rfl, rfl, h2, r2⟩ := trodAll_cons r1
  obtain ⟨rfl, rfl, rfl⟩ := trodAll_nil r2
  obtain rfl : args = #[v0, v1, v2] := by cases args; simp_all
  obtain ⟨rfl, rfl⟩ := trodVars_none hV
  clear hA0 hval0 hargs
  simp only [List.append_nil] at hW'
  have hend : ∀ W' : World, Below W.heap.size W W' → Rows.ringOnceSpec.post enc Try.prog Try.f4 false true false false W #[v0, v1, v2] (.bool true) W' := fun W' hb =>
    law_post (tb := 4) hW' hAk rfl (by kernel_rfl) (by kernel_rfl) (by kernel_rfl) Try.underlying4 rfl rfl rfl hb
  clear hW' hAk hp
  obtain ⟨a0, rfl, rfl, rfl, w0⟩ := open_int Try.underlying3 (hval 0 3 v0 rfl rfl) h0
  obtain ⟨A1, n1, c1, z1, rfl, w1⟩ := ints_arg Try.underlying34 Try.underlying3 (by kernel_rfl) (hval 1 34 v1 rfl rfl) h1
  obtain ⟨A2, n2, c2, z2, rfl, w2⟩ := ints_arg Try.underlying34 Try.underlying3 (by kernel_rfl) (hval 2 34 v2 rfl rfl) h2
  refine (walk a0 A1 n1 c1 z1 A2 n2 c2 z2 W w0 w1 w2).mono fun e W' ⟨he, hg⟩ => ?_
  subst he
  exact ⟨_, rfl, hend W' hg⟩

theorem over : Rows.ringOnceRow.holds Try.pinned (OpenSpec.ofChange Rows.ringOnceSpec) :=
  OpenClaim.holds_of_wide 4 Try.f4 rfl rfl rfl rfl rfl rfl rfl ⟨rfl, rfl, rfl, rfl, rfl⟩ rfl rfl rfl rfl rfl (by kernel_rfl) Try.func4 (by kernel_rfl)
    (of_decide_eq_true (by kernel_rfl)) (by unfold Func.isWrapper; first | (rw [if_pos (by decide +kernel)]; kernel_rfl) | (rw [if_neg (by decide +kernel)]; exact ⟨rfl, rfl⟩))
    (fun os started H enc _ => lifted os started H enc)

/-- THE STATEMENT -/
theorem proved : Rows.RingOnceSaid :=
  over
#print axioms proved
end Go.Proofs.Ytcbfpejlbbgdjaa.ringOnce
