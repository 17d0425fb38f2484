/-
  In every script of up to 300 calls, of the marks that are taken of one root, in one life, each is newer than the one that was taken ahead of it.
  The walk is the prover's own; the frame of the row's step follows the kit's template.
-/
import Derived.Test.YtpcbbpcibmpopaaRows
import Derived.Test.YtpcbbpcibmpopaaLawKit
import Derived.Test.YtpcbbpcibmpopaaStructArg
import Derived.Test.YtpcbbpcibmpopaaFlat
import Derived.Test.YtpcbbpcibmpopaaElM
import Derived.Deep.QuietTactic
import Derived.BigQuiet
namespace Go.Proofs.Ytpcbbpcibmpopaa.electOnce
open Go.ChangeShapes Go.WideShapes Go.ChangeAt Go.RowKit Go.ChangeMaps Go.WideElems
set_option linter.unusedVariables false

theorem split2 {ns : List Int} (h : ns.length = 2) : ∃ s1_0 s1_1 : Int, ns = [s1_0, s1_1] := by
  match ns, h with
  | [y0, y1], _ => exact ⟨_, _, rfl⟩
theorem cells2 {W : World} {vs : List Value} (h : Fit W [.int .i64, .int .i64, .int .u16, .int .u16] vs) : ∃ (s0 : Int) (s1 : Int) (s2 : Int) (s3 : Int), vs = [.int .i64 s0, .int .i64 s1, .int .u16 s2, .int .u16 s3] ∧ (Lit.int .i64 s0).wf = true ∧ (Lit.int .i64 s1).wf = true ∧ (Lit.int .u16 s2).wf = true ∧ (Lit.int .u16 s3).wf = true := by
  match vs, h.length, h with
  | [y0, y1, y2, y3], _, h =>
    obtain ⟨⟨x0, rfl, h0⟩, ⟨x1, rfl, h1⟩, ⟨x2, rfl, h2⟩, ⟨x3, rfl, h3⟩, _⟩ := h
    exact ⟨x0, x1, x2, x3, rfl, h0, h1, h2, h3⟩
theorem own : ownKnob Try.prog.godebug = none := by kernel_rfl
set_option linter.unusedSimpArgs false in
set_option maxHeartbeats 8000000 in
set_option maxRecDepth 100000 in
theorem walk (a0 : Int) (s1_0 s1_1 : Int) (A2 : Option Addr) (n2 c2 : Nat) (f2 : Nat → List Value) (w : World) (w0 : (Lit.int .i64 a0).wf = true) (w1_0 : (Lit.int .i64 s1_0).wf = true) (w1_1 : (Lit.int .i64 s1_1).wf = true) (w2 : FlatRow w [.int .i64, .int .i64, .int .u16, .int .u16] A2 n2 c2 f2) :
    Calls Try.prog 5 #[.int .i64 a0, .agg #[.int .i64 s1_0, .int .i64 s1_1], .slice A2 n2 c2] w fun e w' => e = .returned (.bool true) ∧ Below w.heap.size w w' := by
  have HB0 := Lib.hid (Box.start w 23 #[.int .i64 s1_0, .int .i64 s1_1])
  by_cases h300 : 300 < n2
  · have d3 : decide ((300 : Int) < (n2 : Int)) = true := decide_eq_true (by omega)
    go_enter Try.func5, Try.ntmps5
    go_wp2_with (go_at_call 8; refine (alive_yes _).mono ?_; rintro e w1 ⟨rfl, hb1⟩)
    go_ret
    exact ⟨rfl, (HB0.out.next hb1).below⟩
  have d3 : decide ((300 : Int) < (n2 : Int)) = false := decide_eq_false (by omega)
  have hcap := w2.cap_le
  have hmx := w2.max
  unfold maxLen at hmx
  have R := Lib.hid w2
  clear w2
  cases hgd : goodB a0 s1_0 s1_1 with
  | false =>
    have hnew := fun W => new_no W a0 s1_0 s1_1 hgd
    clear hgd
    go_enter Try.func5, Try.ntmps5
    go_wp2_with (first
      | (go_at_call 8; refine (alive_yes _).mono ?_; rintro e w1 ⟨rfl, hb1⟩; have hx1 := HB0.out.next hb1; have HX1 := Lib.hid hx1; have x0 := hx1.holds.cell 0; have x1 := hx1.holds.cell 1; clear hx1)
      | (go_at_call 9; refine (hnew _).mono ?_; rintro e w2 ⟨rfl, hb2⟩))
    go_ret
    exact ⟨rfl, (HX1.out.next hb2).below⟩
  | true =>
    have hnew := fun W => new_yes W a0 s1_0 s1_1 hgd
    clear hgd
    have hz1 := zero_last
    have hz2 := zero_known
    have harn := Ar.new
    have hwp := fun (wr : World) (gl gk : Nat) (f : Int → Option (Int × Int)) (h : Ar wr gl gk f) => h.wipe
    obtain ⟨Y, hY⟩ : ∃ Y, lastZ = Y := ⟨_, rfl⟩
    obtain ⟨Z, hZ⟩ : ∃ Z, knownZ = Z := ⟨_, rfl⟩
    simp only [hY] at hz1 harn
    simp only [hZ] at hz2 harn
    have HArn := Lib.hid harn
    have HWp := Lib.hid hwp
    clear hY hZ harn hwp
    go_enter Try.func5, Try.ntmps5
    go_wp2_with (first
      | (go_at_call 8; refine (alive_yes _).mono ?_; rintro e w1 ⟨rfl, hb1⟩; have hx1 := HB0.out.next hb1; have HX1 := Lib.hid hx1; have x0 := hx1.holds.cell 0; have x1 := hx1.holds.cell 1; clear hx1)
      | (go_at_call 9; refine (hnew _).mono ?_; rintro e w2 ⟨g, b, rfl, hE, hb2⟩; have hL := Lw.start HX1.out hE hb2; have HL0 := Lib.hid hL; clear hE hL))
    have hA0 := HArn.out w2
    have hL0 := (HL0.out.alloc (.cells Y.toArray 53)).alloc (.cells Z.toArray 45)
    have hgl : w.heap.size + 1 ≤ w2.heap.size := by have := HL0.out.box.lt; omega
    obtain ⟨gl, hgl'⟩ : ∃ gl, w2.heap.size = gl := ⟨_, rfl⟩
    obtain ⟨gk, hgk'⟩ : ∃ gk, gl + 1 = gk := ⟨_, rfl⟩
    simp only [hgl', hgk'] at hA0 hL0 hgl ⊢
    have hgk : w.heap.size + 1 ≤ gk := by omega
    have HA0 := Lib.hid hA0
    have HLa := Lib.hid hL0
    clear hnew x0 x1 hgl' hgk' hA0 hL0 HL0 HArn hz1 hz2
    go_loopw [30] (fun i wr => ∃ (k b n : Nat) (s : St), k ≤ n2 ∧ i = .int .i64 k ∧ n ≤ k ∧ s.me = a0 ∧ Lw w wr s1_0 s1_1 g b n s ∧ Ar wr gl gk s.f) (fun i _ => n2 - (intOf i).toNat)
    case atStart => exact ⟨0, b, 0, _, by omega, rfl, by omega, rfl, HLa.out, HA0.out⟩
    case round =>
      obtain ⟨k, b, n, s, hk, rfl, hn, hme, hL, hA⟩ := hrel
      have HL := Lib.hid hL
      have HA := Lib.hid hA
      clear hL hA HA0 HLa
      by_cases hlt : k < n2
      · obtain ⟨a, off, rfl, hb', hc⟩ := (R.out.below HL.out.law).at 4 rfl hlt
        obtain ⟨s0, s1, s2, s3, hf, hw0, hw1, hw2, hw3⟩ := cells2 (R.out.fit k hlt)
        have q0 : wr.cell? ⟨a, off + k * 4, none⟩ = some (.int .i64 s0) := hc 0 _ (by rw [hf]; rfl)
        have q1 : wr.cell? ⟨a, off + k * 4 + 1, none⟩ = some (.int .i64 s1) := hc 1 _ (by rw [hf]; rfl)
        have q2 : wr.cell? ⟨a, off + k * 4 + 2, none⟩ = some (.int .u16 s2) := hc 2 _ (by rw [hf]; rfl)
        have q3 : wr.cell? ⟨a, off + k * 4 + 3, none⟩ = some (.int .u16 s3) := hc 3 _ (by rw [hf]; rfl)
        have f2 := f16_wf hw2
        have f3 := f16_wf hw3
        have hi := HL.out.node.inv
        have hways := hear_ways s1 s2 s3 hi
        have hmarks := hi.marks
        obtain ⟨m0, m1⟩ := hi.me
        have ew := IntWalk.i64_in ((k : Int) + 1) (by omega)
        obtain ⟨hgo, hbo⟩ := HL.out.apart
        obtain ⟨hlo, hko⟩ := HA.out.lt
        have HL1 := Lib.hid (HL.out.alloc (.cells #[.int .i64 s0, .int .i64 s1, .int .u16 s2, .int .u16 s3] 43))
        have HA1 := Lib.hid (HA.out.below (below_alloc _ (.cells #[.int .i64 s0, .int .i64 s1, .int .u16 s2, .int .u16 s3] 43)))
        have HO := Lib.hid (Holds.new wr 43 #[.int .i64 s0, .int .i64 s1, .int .u16 s2, .int .u16 s3])
        have hH := hear_at HL1.out.node (by omega) s1 s2 s3 hw1 f2 f3 rfl rfl
        have HBt := Lib.hid (beat_at HL1.out.node rfl rfl)
        have HBo := Lib.hid (boot_at HL1.out.node s2 f2)
        have HHk := Lib.hid (hear_keeps s s1 s2 s3)
        have HMe := Lib.hid hme
        have hkind : (s0 = 0 ∨ s0 = 1 ∨ s0 = 2) ∨ (s0 = 3 ∨ s0 = 4) ∨ s0 = 6 ∨ ((s0 == 0) = false ∧ (s0 == 1) = false ∧ (s0 == 2) = false ∧ (s0 == 3) = false ∧ (s0 == 4) = false ∧ (s0 == 6) = false) := by
          by_cases k0 : s0 = 0 <;> by_cases k1 : s0 = 1 <;> by_cases k2 : s0 = 2 <;> by_cases k3 : s0 = 3 <;> by_cases k4 : s0 = 4 <;> by_cases k6 : s0 = 6 <;> simp_all
        have hof : off + k * 4 = off + k * 4 := rfl
        clear hc hf hw0 hw1 hw2 hw3 hi hme HL HA hof
        rcases hkind with hkind | hkind | rfl | ⟨k0, k1, k2, k3, k4, k6⟩
        · rcases hways with ⟨hv, hs⟩ | ⟨v0, v1, hroot, z0, z1, z2, ht⟩
          · rw [hv, hs] at hH
            have HH := Lib.hid hH
            clear hv hs hH f2 f3 hmarks
            rcases hkind with rfl | rfl | rfl <;>
            · go_wp2_with (go_at_call 16; refine HH.out.mono ?_; rintro e w4 ⟨rfl, hg4⟩; obtain ⟨b4, hL4, hc4, -⟩ := HL1.out.next hg4; have HA4 := Lib.hid (HA1.out.step HL1.out hc4); have HL4 := Lib.hid hL4; clear hg4 hL4 hc4)
              go_roundw
              case rel => exact ⟨k + 1, b4, n + 1, s, by omega, by go_num, by omega, HMe.out, HL4.out, HA4.out⟩
              case measure => simp [intOf]; omega
          · obtain ⟨i, rfl⟩ : ∃ i : Nat, s1 = i := ⟨s1.toNat, by omega⟩
            have hi64 : i < 64 := by omega
            have hi64' : (i : Int) < 64 := by omega
            have di0 : decide ((i : Int) < 0) = false := decide_eq_false (by omega)
            have di1 : decide ((63 : Int) < (i : Int)) = false := decide_eq_false (by omega)
            have hf := hear_f ht
            have hnw := fun p (hp : s.f i = some p) => hear_newer ht hp
            have hcn := fun W p (hp : s.f i = some p) => rmnewer_any W s2 s3 p.1 p.2 f2 f3 (hmarks _ _ hp).1 (hmarks _ _ hp).2
            have hk := HHk.out
            obtain ⟨V, hV⟩ : ∃ V, hearV s i s2 s3 = V := ⟨_, rfl⟩
            obtain ⟨S, hS⟩ : ∃ S, hearS s i s2 s3 = S := ⟨_, rfl⟩
            rw [hV, hS] at hH
            rw [hV] at v0 v1
            rw [hS] at hk hf
            have HH := Lib.hid hH
            have HSk := Lib.hid hk
            have HF := Lib.hid hf
            clear hV hS hH z2 hroot hk hf HHk ht f2 f3 hmarks
            have hknown : (s.f i = none) ∨ ∃ p, s.f i = some p := by cases s.f i <;> simp
            rcases hknown with hno | ⟨⟨p1, p2⟩, hp⟩
            · rcases hkind with rfl | rfl | rfl <;>
              · go_upto_region 20 with (go_at_call 16; refine HH.out.mono ?_; rintro e w4 ⟨rfl, hg4⟩; obtain ⟨b4, hL4, hO4, hc4, -⟩ := HL1.out.step hg4 HO.out (by omega) (by omega); have HA4 := Lib.hid (HA1.out.step HL1.out hc4); have HL4 := Lib.hid hL4; have HO4 := Lib.hid hO4; have o1 := hO4.cell 1; have o2 := hO4.cell 2; have o3 := hO4.cell 3; clear hg4 hL4 hc4 hO4)
                obtain ⟨y0, y1, p, y2, y3, y4, y5, -⟩ := HA4.out.at hi64
                rw [hno] at y0
                simp only [Option.isSome_none] at y0
                have n1 := HA4.out.ne
                have n2' : wr.heap.size ≠ gk := by omega
                have n3 : wr.heap.size ≠ gl := by omega
                go_quiet (fail)
                go_upto_region 22 with fail
                go_wp2
                go_roundw
                case rel =>
                  have hT := (HA4.out.below (below_drewN (Below.refl _ _) nq)).take hi64 s2 s3
                  rw [← HF.out] at hT
                  have hLT := (HL4.out.drewN nq).take (HA4.out.below (below_drewN (Below.refl _ _) nq)) hgl hgk i (i * 2) (.bool true) (.int .u16 s2) (.int .u16 s3)
                  exact ⟨k + 1, b4, n + 1, S, by omega, by go_num, by omega, HSk.out.trans HMe.out, hLT, hT⟩
                case measure => simp [intOf]; omega
            · have hnn := hnw _ hp
              have hcall := fun W => hcn W _ hp
              simp only [] at hnn
              simp only [hnn] at hcall
              clear hnn
              rcases hkind with rfl | rfl | rfl <;>
              · go_upto_region 20 with (go_at_call 16; refine HH.out.mono ?_; rintro e w4 ⟨rfl, hg4⟩; obtain ⟨b4, hL4, hO4, hc4, -⟩ := HL1.out.step hg4 HO.out (by omega) (by omega); have HA4 := Lib.hid (HA1.out.step HL1.out hc4); have HL4 := Lib.hid hL4; have HO4 := Lib.hid hO4; have o1 := hO4.cell 1; have o2 := hO4.cell 2; have o3 := hO4.cell 3; clear hg4 hL4 hc4 hO4)
                obtain ⟨y0, y1, p, y2, y3, y4, y5, hpp⟩ := HA4.out.at hi64
                have hpe := hpp _ hp
                subst hpe
                rw [hp] at y0
                simp only [Option.isSome_some] at y0 y2 y3
                have n1 := HA4.out.ne
                have n2' : wr.heap.size ≠ gk := by omega
                have n3 : wr.heap.size ≠ gl := by omega
                clear hpp
                go_quiet ((go_at_call 24; refine (hcall _).mono ?_; rintro e wx ⟨rfl, rfl⟩; exact ⟨rfl, _, rfl⟩))
                go_upto_region 22 with fail
                go_wp2
                go_roundw
                case rel =>
                  have hT := (HA4.out.below (below_drewN (Below.refl _ _) nq)).take hi64 s2 s3
                  rw [← HF.out] at hT
                  have hLT := (HL4.out.drewN nq).take (HA4.out.below (below_drewN (Below.refl _ _) nq)) hgl hgk i (i * 2) (.bool true) (.int .u16 s2) (.int .u16 s3)
                  exact ⟨k + 1, b4, n + 1, S, by omega, by go_num, by omega, HSk.out.trans HMe.out, hLT, hT⟩
                case measure => simp [intOf]; omega
        · have hb := beat_f s
          have hk := beat_keeps s
          have hBt := HBt.out
          obtain ⟨S, hS⟩ : ∃ S, beatS s = S := ⟨_, rfl⟩
          rw [hS] at hBt hk hb
          have HBt' := Lib.hid hBt
          have HF := Lib.hid hb
          have HSk := Lib.hid hk
          clear hS hBt hk hb hways hmarks hH HBt
          rcases hkind with rfl | rfl <;>
          · go_wp2_with (go_at_call 15; refine HBt'.out.mono ?_; rintro e w4 ⟨rfl, hg4⟩; obtain ⟨b4, hL4, hc4, -⟩ := HL1.out.next hg4; have HA4 := Lib.hid (HA1.out.step HL1.out hc4); have HL4 := Lib.hid hL4; clear hg4 hL4 hc4)
            go_roundw
            case rel => exact ⟨k + 1, b4, n, S, by omega, by go_num, by omega, HSk.out.trans HMe.out, HL4.out, by rw [HF.out]; exact HA4.out⟩
            case measure => simp [intOf]; omega
        · clear hways hmarks hH
          go_wp2_with (first
            | (go_at_call 10; refine HBo.out.mono ?_; rintro e w4 ⟨rfl, hg4⟩; obtain ⟨b4, hL4, hc4, -⟩ := HL1.out.next hg4; have HA4 := Lib.hid (HA1.out.step HL1.out hc4); have HL4 := Lib.hid hL4; obtain ⟨cur, hcur, hfit, hA5⟩ := HWp.out _ _ _ _ HA4.out; have HC := Lib.hid (And.intro hcur hfit); have HA5 := Lib.hid hA5; clear hg4 hL4 hc4 hcur hfit hA5)
            | (refine wpList_store_at rfl 45 (.tmp 10) (.tmp 99) rfl gk 0 knownZ rfl (by rfl) 45 cur HC.out.1 (by rw [knownZ_len]; exact known_size) HC.out.2 knownZ_one ?_))
          go_roundw
          case rel => exact ⟨k + 1, b4, 0, bootS s s2, by omega, by go_num, by omega, HMe.out, HL4.out.wipe HA4.out hgk _, HA5.out⟩
          case measure => simp [intOf]; omega
        · clear hways hmarks hH
          go_wp2
          go_roundw
          case rel => exact ⟨k + 1, b, n, s, by omega, by go_num, by omega, HMe.out, HL1.out, HA1.out⟩
          case measure => simp [intOf]; omega
      · have hkn : k = n2 := by omega
        have hlt' : decide ((k : Int) < (n2 : Int)) = false := decide_eq_false (by omega)
        go_wp2
        go_ret
        exact ⟨rfl, HL.out.law⟩

set_option maxRecDepth 100000 in
theorem lifted (os : Os) (started : os.Started) (H : Type) (enc : TypeId × Value → H) :
    ReturnsInHanded {} Try.checked os 5 .any (Rows.electOnceSpec.pre6 enc Try.prog Try.f5 Rows.electOnceRow.domain false) (Rows.electOnceSpec.post enc Try.prog Try.f5 false true false false) := by
  refine returnsInHanded_of_change (C := Try.checked) own started (by kernel_rfl) Try.func5
    (ChangeSpec.witness6 (enc := enc) (C := Try.checked) false ⟨#[], #[.int .i64 0, .agg #[.int .i64 0, .int .i64 0], .slice none 0 0], []⟩ 8 (by kernel_rfl) (by kernel_rfl) (by kernel_rfl) (by kernel_rfl)) ?_
  intro W base args ds gs before hval0 hW hcnd _
  have hval : ∀ (j : Nat) t v, Try.f5.params[j]? = some t → args[j]? = some v → Value.okWide Try.prog W .any base t v := hval0
  have hW' := hW
  obtain ⟨p, q, hA0, hV, rfl, hfz, hnd⟩ := hW
  have hA : DataW.TrodAll enc Try.prog W 0 (fun _ => true) true Try.f5.params.toList args.toList ds p := hA0
  have hAk := hA
  rw [Try.params5] at hA hval
  obtain ⟨v0, vs0, d0, ds0, p0, q0, hargs, rfl, hp, h0, r0⟩ := trodAll_cons hA
  obtain ⟨v1, vs1, d1, ds1, p1, q1, rfl, rfl, rfl, h1, r1⟩ := trodAll_cons r0
  obtain ⟨v2, vs2, d2, ds2, p2, q2, rfl, rfl, rfl, h2, r2⟩ := trodAll_cons r1
  obtain ⟨rfl, rfl, rfl⟩ := trodAll_nil r2
  obtain rfl : args = #[v0, v1, v2] := by cases args; simp_all
  obtain ⟨rfl, rfl⟩ := trodVars_none hV
  clear hA0 hval0 hargs
  simp only [List.append_nil] at hW'
  have hend : ∀ W' : World, Below W.heap.size W W' → Rows.electOnceSpec.post enc Try.prog Try.f5 false true false false W #[v0, v1, v2] (.bool true) W' := fun W' hb =>
    law_post (tb := 4) hW' hAk rfl (by kernel_rfl) (by kernel_rfl) (by kernel_rfl) Try.underlying4 rfl rfl rfl hb
  clear hW' hAk hp
  obtain ⟨a0, rfl, rfl, rfl, w0⟩ := open_int Try.underlying3 (hval 0 3 v0 rfl rfl) h0
  obtain ⟨ns1, rfl, hl1, hw1⟩ := ints_struct (ks := [.i64, .i64]) Try.underlying23 (by kernel_rfl) (by kernel_rfl) (by kernel_rfl) (hval 1 23 v1 rfl rfl) h1
  obtain ⟨s1_0, s1_1, rfl⟩ := split2 hl1
  clear hl1
  obtain ⟨A2, n2, c2, f2, rfl, w2⟩ := flats_arg (ks := [.int .i64, .int .i64, .int .u16, .int .u16]) 9 Try.underlying24 (by kernel_rfl) (by kernel_rfl) (by decide) (hval 2 24 v2 rfl rfl) h2
  refine (walk a0 s1_0 s1_1 A2 n2 c2 f2 W w0 (hw1 0 _ _ rfl rfl) (hw1 1 _ _ rfl rfl) w2).mono fun e W' ⟨he, hg⟩ => ?_
  subst he
  exact ⟨_, rfl, hend W' hg⟩

theorem over : Rows.electOnceRow.holds Try.pinned (OpenSpec.ofChange Rows.electOnceSpec) :=
  OpenClaim.holds_of_wide 5 Try.f5 rfl rfl rfl rfl rfl rfl rfl ⟨rfl, rfl, rfl, rfl, rfl⟩ rfl rfl rfl rfl rfl (by kernel_rfl) Try.func5 (by kernel_rfl)
    (of_decide_eq_true (by kernel_rfl)) (by unfold Func.isWrapper; first | (rw [if_pos (by decide +kernel)]; kernel_rfl) | (rw [if_neg (by decide +kernel)]; exact ⟨rfl, rfl⟩))
    (fun os started H enc _ => lifted os started H enc)

/-- THE STATEMENT -/
theorem proved : Rows.ElectOnceSaid :=
  over
#print axioms proved
end Go.Proofs.Ytpcbbpcibmpopaa.electOnce
