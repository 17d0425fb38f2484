/-
  In every script of up to 300 calls a node that never heard what is refused goes on in the same way.
  The walk is the prover's own; the frame of the row's step follows the kit's template.
-/
import Derived.Test.YtpcbbpcibmpopaaRows
import Derived.Test.YtpcbbpcibmpopaaLawKit
import Derived.Test.YtpcbbpcibmpopaaStructArg
import Derived.Test.YtpcbbpcibmpopaaFlat
import Derived.Test.YtpcbbpcibmpopaaElL
import Derived.Deep.QuietTactic
import Derived.BigQuiet
namespace Go.Proofs.Ytpcbbpcibmpopaa.electDeaf
open Go.ChangeShapes Go.WideShapes Go.ChangeAt Go.RowKit Go.ChangeMaps Go.WideElems
set_option linter.unusedVariables false

theorem split2 {ns : List Int} (h : ns.length = 2) : ∃ s1_0 s1_1 : Int, ns = [s1_0, s1_1] := by
  match ns, h with
  | [y0, y1], _ => exact ⟨_, _, rfl⟩
theorem cells2 {W : World} {vs : List Value} (h : Fit W [.int .i64, .int .i64, .int .u16, .int .u16] vs) : ∃ (s0 : Int) (s1 : Int) (s2 : Int) (s3 : Int), vs = [.int .i64 s0, .int .i64 s1, .int .u16 s2, .int .u16 s3] ∧ (Lit.int .i64 s0).wf = true ∧ (Lit.int .i64 s1).wf = true ∧ (Lit.int .u16 s2).wf = true ∧ (Lit.int .u16 s3).wf = true := by
  match vs, h.length, h with
  | [y0, y1, y2, y3], _, h =>
    obtain ⟨⟨x0, rfl, h0⟩, ⟨x1, rfl, h1⟩, ⟨x2, rfl, h2⟩, ⟨x3, rfl, h3⟩, _⟩ := h
    exact ⟨x0, x1, x2, x3, rfl, h0, h1, h2, h3⟩
theorem own : ownKnob Try.prog.godebug = none := by kernel_rfl
/-- Two nodes of one state, apart. -/
structure Two (w wr : World) (t e : Int) (ga ba gb bb n : Nat) (s : St) : Prop where
  one : Lw w wr t e ga ba n s
  two : Lw w wr t e gb bb n s
  ne : ga ≠ gb ∧ ba ≠ bb
section
variable {w wr w' : World} {t e : Int} {ga ba gb bb n n' : Nat} {s s' : St}
theorem Two.swap (h : Two w wr t e ga ba gb bb n s) : Two w wr t e gb bb ga ba n s := ⟨h.two, h.one, fun e => h.ne.1 e.symm, fun e => h.ne.2 e.symm⟩
theorem Two.sep (h : Two w wr t e ga ba gb bb n s) : ga ≠ bb ∧ gb ≠ ba := ⟨h.two.node.km.apart h.one.node.holds, h.one.node.km.apart h.two.node.holds⟩
theorem Two.below (h : Two w wr t e ga ba gb bb n s) (hb : Below wr.heap.size wr w') : Two w w' t e ga ba gb bb n s := ⟨h.one.below hb, h.two.below hb, h.ne⟩
/-- The other node stays. -/
theorem Lw.other (h : Lw w wr t e ga ba n s) (h2 : Lw w wr t e gb bb n' s') (hne : ga ≠ gb ∧ ba ≠ bb) (hc : Chg (part ga ba) wr w') (hb : Box w 23 #[.int .i64 t, .int .i64 e] w') : Lw w w' t e gb bb n' s' := by
  have h3 : ga ≠ bb := h2.node.km.apart h.node.holds
  have h4 : gb ≠ ba := h.node.km.apart h2.node.holds
  refine ⟨hb, h2.node.chg hc (fun k hk hk' => ?_)⟩
  rcases hk with rfl | rfl <;> rcases hk' with e | e
  · exact hne.1 e.symm
  · exact h4 e
  · exact h3 e.symm
  · exact hne.2 e.symm
/-- The one node made a step; behind it the other one makes the same: both are of one state again. -/
theorem Two.first (h : Two w wr t e ga ba gb bb n s) (hg : Goes (w.heap.size + 1) ga ba n' s' wr w') {o : Nat} {ty : TypeId} {cs : Array Value} (HO : Holds wr o ty cs) (h1 : o ≠ ga) (h2 : o ≠ ba) :
    ∃ ba', Lw w w' t e ga ba' n' s' ∧ Lw w w' t e gb bb n s ∧ ga ≠ gb ∧ ba' ≠ bb ∧ Holds w' o ty cs ∧ (ba' = ba ∨ wr.heap.size ≤ ba') ∧ wr.heap.size ≤ w'.heap.size := by
  obtain ⟨ba', k1, k2, k3⟩ := h.one.next hg
  have hl := h.two.node.ltb
  refine ⟨ba', k1, Lw.other h.one h.two h.ne k2 k1.box, h.ne.1, ?_, HO.chg k2 (fun e => e.elim h1 h2), k3, k2.size⟩
  rcases k3 with rfl | k3
  · exact h.ne.2
  · omega
theorem Two.second {b' : Nat} (h1 : Lw w wr t e ga b' n' s') (h2 : Lw w wr t e gb bb n s) (hne : ga ≠ gb ∧ b' ≠ bb) (hg : Goes (w.heap.size + 1) gb bb n' s' wr w') {o : Nat} {ty : TypeId} {cs : Array Value} (HO : Holds wr o ty cs) (h3 : o ≠ gb) (h4 : o ≠ bb) :
    ∃ bb', Two w w' t e ga b' gb bb' n' s' ∧ Holds w' o ty cs := by
  obtain ⟨bb', k1, k2, k3⟩ := h2.next hg
  have hl := h1.node.ltb
  refine ⟨bb', ⟨Lw.other h2 h1 ⟨fun e => hne.1 e.symm, fun e => hne.2 e.symm⟩ k2 k1.box, k1, hne.1, ?_⟩, HO.chg k2 (fun e => e.elim h3 h4)⟩
  rcases k3 with rfl | k3
  · exact hne.2
  · omega
end
theorem mark_at' {w : World} {B g b n : Nat} {s : St} (h : En w B g b n s) {v0 v1 : Int} {c : Bool} (hv : saidV s = (v0, v1)) (hc : saidB s = c) : Calls Try.prog 11 #[.pointer (some ⟨g, 0, none⟩)] w fun e w' => e = .returned (.tuple #[.agg #[.int .u16 v0, .int .u16 v1], .bool c]) ∧ Below w.heap.size w w' := by
  have := mark_at h
  rw [hv, hc] at this
  exact this
theorem issue_at' {w : World} {B g b n : Nat} {s s' : St} (h : En w B g b n s) {v0 v1 : Int} {c : Bool} (hv : issueV s = (v0, v1)) (hc : decide (s.root = s.me) = c) (hs : issueS s = s') : Calls Try.prog 12 #[.pointer (some ⟨g, 0, none⟩)] w fun e w' => e = .returned (.tuple #[.agg #[.int .u16 v0, .int .u16 v1], .bool c]) ∧ Goes B g b n s' w w' := by
  have := issue_at h
  rw [hv, hc, hs] at this
  exact this
theorem root_at' {w : World} {B g b n : Nat} {s : St} (h : En w B g b n s) {r : Int} (hr : s.root = r) : Calls Try.prog 13 #[.pointer (some ⟨g, 0, none⟩)] w fun e w' => e = .returned (.int .i64 r) ∧ w = w' := by
  have := root_any _ _ _ _ _ _ h
  rw [hr] at this
  exact this
set_option linter.unusedSimpArgs false in
set_option maxHeartbeats 8000000 in
set_option maxRecDepth 100000 in
theorem walk (a0 : Int) (s1_0 s1_1 : Int) (A2 : Option Addr) (n2 c2 : Nat) (f2 : Nat → List Value) (w : World) (w0 : (Lit.int .i64 a0).wf = true) (w1_0 : (Lit.int .i64 s1_0).wf = true) (w1_1 : (Lit.int .i64 s1_1).wf = true) (w2 : FlatRow w [.int .i64, .int .i64, .int .u16, .int .u16] A2 n2 c2 f2) :
    Calls Try.prog 7 #[.int .i64 a0, .agg #[.int .i64 s1_0, .int .i64 s1_1], .slice A2 n2 c2] w fun e w' => e = .returned (.bool true) ∧ Below w.heap.size w w' := by
  have HB0 := Lib.hid (Box.start w 23 #[.int .i64 s1_0, .int .i64 s1_1])
  by_cases h300 : 300 < n2
  · have d3 : decide ((300 : Int) < (n2 : Int)) = true := decide_eq_true (by omega)
    go_enter Try.func7, Try.ntmps7
    go_wp2_with (go_at_call 8; refine (alive_yes _).mono ?_; rintro e w1 ⟨rfl, hb1⟩)
    go_ret
    exact ⟨rfl, (HB0.out.next hb1).below⟩
  have d3 : decide ((300 : Int) < (n2 : Int)) = false := decide_eq_false (by omega)
  have hcap := w2.cap_le
  have hmx := w2.max
  unfold maxLen at hmx
  have R := Lib.hid w2
  clear w2
  cases hgd : goodB a0 s1_0 s1_1 with
  | false =>
    have hnew := fun W => new_no W a0 s1_0 s1_1 hgd
    clear hgd
    go_enter Try.func7, Try.ntmps7
    go_wp2_with (first
      | (go_at_call 8; refine (alive_yes _).mono ?_; rintro e w1 ⟨rfl, hb1⟩; replace HB0 := Lib.hid (HB0.out.next hb1); have x0 := HB0.out.holds.cell 0; have x1 := HB0.out.holds.cell 1)
      | (go_at_call 9; refine (hnew _).mono ?_; rintro e w2 ⟨rfl, hb2⟩; replace HB0 := Lib.hid (HB0.out.next hb2); have x0 := HB0.out.holds.cell 0; have x1 := HB0.out.holds.cell 1; clear hb2))
    go_ret
    exact ⟨rfl, HB0.out.below⟩
  | true =>
    have hnew := fun W => new_yes W a0 s1_0 s1_1 hgd
    have hnew2 := fun W => new_yes W a0 s1_0 s1_1 hgd
    clear hgd
    go_enter Try.func7, Try.ntmps7
    go_wp2_with (first
      | (go_at_call 8; refine (alive_yes _).mono ?_; rintro e w1 ⟨rfl, hb1⟩; have hx1 := HB0.out.next hb1; have HX1 := Lib.hid hx1; have x0 := hx1.holds.cell 0; have x1 := hx1.holds.cell 1; clear hx1)
      | (go_at_call 9; refine (hnew _).mono ?_; rintro e w2 ⟨ga, ba, rfl, hE, hb2⟩; have hL := Lw.start HX1.out hE hb2; have HL0 := Lib.hid hL; have x0 := hL.cells.1; have x1 := hL.cells.2; clear hE hL hnew)
      | (go_at_call 9; refine (hnew2 _).mono ?_; rintro e w3 ⟨gb, bb, rfl, hE, hb3⟩; have hL := Lw.start HL0.out.box hE hb3; have HLb := Lib.hid hL; have HLa := Lib.hid (HL0.out.below hb3); have HNb := Lib.hid hE.newer; clear hE hL hnew2 x0 x1))
    have hT : Two w w3 s1_0 s1_1 ga ba gb bb 0 (newS a0 s1_0 s1_1 0) := ⟨HLa.out, HLb.out, by have := HL0.out.node.lt; have := HNb.out; omega, by have := HL0.out.node.ltb; have := HNb.out; omega⟩
    have HT0 := Lib.hid hT
    clear hT HLa HLb HL0 HNb HX1
    go_loopw [53] (fun i wr => ∃ (k ba bb n : Nat) (s : St), k ≤ n2 ∧ i = .int .i64 k ∧ n ≤ k ∧ Two w wr s1_0 s1_1 ga ba gb bb n s) (fun i _ => n2 - (intOf i).toNat)
    case atStart => exact ⟨0, ba, bb, 0, _, by omega, rfl, by omega, HT0.out⟩
    case round =>
      obtain ⟨k, ba, bb, n, s, hk, rfl, hn, hT⟩ := hrel
      have HT := Lib.hid hT
      clear hT HT0
      by_cases hlt : k < n2
      · obtain ⟨a, off, rfl, hb', hc⟩ := (R.out.below HT.out.one.law).at 4 rfl hlt
        obtain ⟨s0, s1, s2, s3, hf, hw0, hw1, hw2, hw3⟩ := cells2 (R.out.fit k hlt)
        have q0 : wr.cell? ⟨a, off + k * 4, none⟩ = some (.int .i64 s0) := hc 0 _ (by rw [hf]; rfl)
        have q1 : wr.cell? ⟨a, off + k * 4 + 1, none⟩ = some (.int .i64 s1) := hc 1 _ (by rw [hf]; rfl)
        have q2 : wr.cell? ⟨a, off + k * 4 + 2, none⟩ = some (.int .u16 s2) := hc 2 _ (by rw [hf]; rfl)
        have q3 : wr.cell? ⟨a, off + k * 4 + 3, none⟩ = some (.int .u16 s3) := hc 3 _ (by rw [hf]; rfl)
        have f2 := f16_wf hw2
        have f3 := f16_wf hw3
        have hi := HT.out.one.node.inv
        have hways := hear_ways s1 s2 s3 hi
        have ew := IntWalk.i64_in ((k : Int) + 1) (by omega)
        obtain ⟨hgo, hbo⟩ := HT.out.one.apart
        obtain ⟨hgo2, hbo2⟩ := HT.out.two.apart
        have HT1 := Lib.hid (HT.out.below (below_alloc _ (.cells #[.int .i64 s0, .int .i64 s1, .int .u16 s2, .int .u16 s3] 43)))
        have HO := Lib.hid (Holds.new wr 43 #[.int .i64 s0, .int .i64 s1, .int .u16 s2, .int .u16 s3])
        have hkind : (s0 = 0 ∨ s0 = 1 ∨ s0 = 2) ∨ (s0 = 3 ∨ s0 = 4) ∨ s0 = 5 ∨ s0 = 6 ∨ ((s0 == 0) = false ∧ (s0 == 1) = false ∧ (s0 == 2) = false ∧ (s0 == 3) = false ∧ (s0 == 4) = false ∧ (s0 == 5) = false ∧ (s0 == 6) = false) := by
          by_cases k0 : s0 = 0 <;> by_cases k1 : s0 = 1 <;> by_cases k2 : s0 = 2 <;> by_cases k3 : s0 = 3 <;> by_cases k4 : s0 = 4 <;> by_cases k5 : s0 = 5 <;> by_cases k6 : s0 = 6 <;> simp_all
        clear hc hf hw0 hw2 hw3 hi HT
        rcases hkind with hkind | hkind | rfl | rfl | ⟨k0, k1, k2, k3, k4, k5, k6⟩
        · rcases hways with ⟨hv, hs⟩ | ⟨v0, v1, -, -, -, -, -⟩
          · have hA := hear_at HT1.out.one.node (by omega) s1 s2 s3 hw1 f2 f3 hv hs
            have HA := Lib.hid hA
            clear hv hs hA
            rcases hkind with rfl | rfl | rfl <;>
            · go_upto_region 31 with (go_at_call 16; refine HA.out.mono ?_; rintro e w4 ⟨rfl, hg4⟩; obtain ⟨ba4, hL4, hM4, hn4, hn5, hO4, -, hz4⟩ := HT1.out.first hg4 HO.out (by omega) (by omega); have HT4 := Lib.hid (Two.mk hL4 (hM4.mono (Nat.le_succ n)) ⟨hn4, hn5⟩); clear hg4 hL4 hM4 hO4 hz4)
              obtain ⟨v0, v1, hv⟩ : ∃ v0 v1, saidV s = (v0, v1) := ⟨_, _, rfl⟩
              obtain ⟨c, hc⟩ : ∃ c, saidB s = c := ⟨_, rfl⟩
              obtain ⟨r, hr⟩ : ∃ r, (s).root = r := ⟨_, rfl⟩
              obtain ⟨mm, hmm⟩ : ∃ mm, decide ((s).root = (s).me) = mm := ⟨_, rfl⟩
              have hM1 := mark_at' HT4.out.one.node hv hc
              have HM2 := Lib.hid (fun W (h : Two w W s1_0 s1_1 ga ba4 gb bb (n + 1) s) => mark_at' h.two.node hv hc)
              have HR1 := Lib.hid (fun W (h : Two w W s1_0 s1_1 ga ba4 gb bb (n + 1) s) => root_at' h.one.node hr)
              have HR2 := Lib.hid (fun W (h : Two w W s1_0 s1_1 ga ba4 gb bb (n + 1) s) => root_at' h.two.node hr)
              have HN1 := Lib.hid (fun W (h : Two w W s1_0 s1_1 ga ba4 gb bb (n + 1) s) => mine_at h.one.node hmm)
              have HN2 := Lib.hid (fun W (h : Two w W s1_0 s1_1 ga ba4 gb bb (n + 1) s) => mine_at h.two.node hmm)
              have dr : (r != r) = false := by simp
              have dm : (mm != mm) = false := by cases mm <;> rfl
              have dc : (c != c) = false := by cases c <;> rfl
              have e0 : (v0 == v0) = true := by simp
              have e1 : (v1 == v1) = true := by simp
              clear hv hc hr hmm
              go_wp2_with (first
                | (go_at_call 11; (with_reducible refine hM1.mono ?_); rintro e w6 ⟨rfl, hb6⟩; have HT6 := Lib.hid ((HT4.out.below hb6).below (below_alloc _ (.cells #[.int .u16 v0, .int .u16 v1] 33))); have HX6 := Lib.hid (Holds.new w6 33 #[.int .u16 v0, .int .u16 v1]); have hM2 := HM2.out _ HT6.out; have hlt6 := HX6.out.lt; clear hM1 hb6)
                | (go_at_call 11; (with_reducible refine hM2.mono ?_); rintro e w7 ⟨rfl, hb7⟩; have HT7 := Lib.hid ((HT6.out.below hb7).below (below_alloc _ (.cells #[.int .u16 v0, .int .u16 v1] 33))); have HX7 := Lib.hid (HX6.out.below hb7 hlt6); have z0 := HX7.out.cell 0; have z1 := HX7.out.cell 1; have hz7 := HX7.out.lt; have hR1 := HR1.out _ HT7.out; have hR2 := HR2.out _ HT7.out; have hN1 := HN1.out _ HT7.out; clear hM2 hb7)
                | (go_at_call 13; (with_reducible refine hR1.mono ?_); rintro e wx ⟨rfl, hwx⟩; subst wx)
                | (go_at_call 13; (with_reducible refine hR2.mono ?_); rintro e wx ⟨rfl, hwx⟩; subst wx)
                | (go_at_call 14; (with_reducible refine hN1.mono ?_); rintro e wx ⟨rfl, nq1, rfl⟩; have HT8 := Lib.hid (HT7.out.below (below_drewN (Below.refl _ _) nq1)); have hN2 := HN2.out _ HT8.out)
                | (go_at_call 14; (with_reducible refine hN2.mono ?_); rintro e wx ⟨rfl, nq2, rfl⟩))
              go_roundw
              case rel => exact ⟨k + 1, ba4, bb, n + 1, s, by omega, by go_num, by omega, HT7.out.below (below_drewN (Below.refl _ _) _)⟩
              case measure => simp [intOf]; omega
          · obtain ⟨V, hV⟩ : ∃ V, hearV s s1 s2 s3 = V := ⟨_, rfl⟩
            obtain ⟨S, hS⟩ : ∃ S, hearS s s1 s2 s3 = S := ⟨_, rfl⟩
            rw [hV] at v0 v1
            have dv : (V != V) = false := by simp
            have hA := hear_at HT1.out.one.node (by omega) s1 s2 s3 hw1 f2 f3 hV hS
            have HA := Lib.hid hA
            have HBc := Lib.hid (fun W (h : Lw w W s1_0 s1_1 gb bb n s) => hear_at h.node (by omega) s1 s2 s3 hw1 f2 f3 hV hS)
            clear hV hS hA
            rcases hkind with rfl | rfl | rfl <;>
            · go_upto_region 31 with (first
                | (go_at_call 16; (with_reducible refine HA.out.mono ?_); rintro e w4 ⟨rfl, hg4⟩; obtain ⟨ba4, hL4, hM4, hn4, hn5, hO4, -, hz4⟩ := HT1.out.first hg4 HO.out (by omega) (by omega); have hB := HBc.out _ hM4; have x1 := hO4.cell 1; have x2 := hO4.cell 2; have x3 := hO4.cell 3; clear hg4)
                | (go_at_call 16; (with_reducible refine hB.mono ?_); rintro e w5 ⟨rfl, hg5⟩; obtain ⟨bb5, hT5, hO5⟩ := Two.second hL4 hM4 ⟨hn4, hn5⟩ hg5 hO4 (by omega) (by omega); have HT4 := Lib.hid hT5; clear hB hg5 hT5 hO5 hL4 hM4 hO4 x1 x2 x3))
              clear v0 v1 dv
              obtain ⟨v0, v1, hv⟩ : ∃ v0 v1, saidV S = (v0, v1) := ⟨_, _, rfl⟩
              obtain ⟨c, hc⟩ : ∃ c, saidB S = c := ⟨_, rfl⟩
              obtain ⟨r, hr⟩ : ∃ r, (S).root = r := ⟨_, rfl⟩
              obtain ⟨mm, hmm⟩ : ∃ mm, decide ((S).root = (S).me) = mm := ⟨_, rfl⟩
              have hM1 := mark_at' HT4.out.one.node hv hc
              have HM2 := Lib.hid (fun W (h : Two w W s1_0 s1_1 ga ba4 gb bb5 (n + 1) S) => mark_at' h.two.node hv hc)
              have HR1 := Lib.hid (fun W (h : Two w W s1_0 s1_1 ga ba4 gb bb5 (n + 1) S) => root_at' h.one.node hr)
              have HR2 := Lib.hid (fun W (h : Two w W s1_0 s1_1 ga ba4 gb bb5 (n + 1) S) => root_at' h.two.node hr)
              have HN1 := Lib.hid (fun W (h : Two w W s1_0 s1_1 ga ba4 gb bb5 (n + 1) S) => mine_at h.one.node hmm)
              have HN2 := Lib.hid (fun W (h : Two w W s1_0 s1_1 ga ba4 gb bb5 (n + 1) S) => mine_at h.two.node hmm)
              have dr : (r != r) = false := by simp
              have dm : (mm != mm) = false := by cases mm <;> rfl
              have dc : (c != c) = false := by cases c <;> rfl
              have e0 : (v0 == v0) = true := by simp
              have e1 : (v1 == v1) = true := by simp
              clear hv hc hr hmm
              go_wp2_with (first
                | (go_at_call 11; (with_reducible refine hM1.mono ?_); rintro e w6 ⟨rfl, hb6⟩; have HT6 := Lib.hid ((HT4.out.below hb6).below (below_alloc _ (.cells #[.int .u16 v0, .int .u16 v1] 33))); have HX6 := Lib.hid (Holds.new w6 33 #[.int .u16 v0, .int .u16 v1]); have hM2 := HM2.out _ HT6.out; have hlt6 := HX6.out.lt; clear hM1 hb6)
                | (go_at_call 11; (with_reducible refine hM2.mono ?_); rintro e w7 ⟨rfl, hb7⟩; have HT7 := Lib.hid ((HT6.out.below hb7).below (below_alloc _ (.cells #[.int .u16 v0, .int .u16 v1] 33))); have HX7 := Lib.hid (HX6.out.below hb7 hlt6); have z0 := HX7.out.cell 0; have z1 := HX7.out.cell 1; have hz7 := HX7.out.lt; have hR1 := HR1.out _ HT7.out; have hR2 := HR2.out _ HT7.out; have hN1 := HN1.out _ HT7.out; clear hM2 hb7)
                | (go_at_call 13; (with_reducible refine hR1.mono ?_); rintro e wx ⟨rfl, hwx⟩; subst wx)
                | (go_at_call 13; (with_reducible refine hR2.mono ?_); rintro e wx ⟨rfl, hwx⟩; subst wx)
                | (go_at_call 14; (with_reducible refine hN1.mono ?_); rintro e wx ⟨rfl, nq1, rfl⟩; have HT8 := Lib.hid (HT7.out.below (below_drewN (Below.refl _ _) nq1)); have hN2 := HN2.out _ HT8.out)
                | (go_at_call 14; (with_reducible refine hN2.mono ?_); rintro e wx ⟨rfl, nq2, rfl⟩))
              go_roundw
              case rel => exact ⟨k + 1, ba4, bb5, n + 1, S, by omega, by go_num, by omega, HT7.out.below (below_drewN (Below.refl _ _) _)⟩
              case measure => simp [intOf]; omega
        · obtain ⟨V, hV⟩ : ∃ V, beatB s = V := ⟨_, rfl⟩
          obtain ⟨S, hS⟩ : ∃ S, beatS s = S := ⟨_, rfl⟩
          have dv : (V != V) = false := by cases V <;> rfl
          have HA := Lib.hid (beat_at HT1.out.one.node hV hS)
          have HBc := Lib.hid (fun W (h : Lw w W s1_0 s1_1 gb bb n s) => beat_at h.node hV hS)
          clear hV hS hways
          rcases hkind with rfl | rfl <;>
          · go_upto_region 31 with (first
              | (go_at_call 15; (with_reducible refine HA.out.mono ?_); rintro e w4 ⟨rfl, hg4⟩; obtain ⟨ba4, hL4, hM4, hn4, hn5, hO4, -, hz4⟩ := HT1.out.first hg4 HO.out (by omega) (by omega); have hB := HBc.out _ hM4; clear hg4)
              | (go_at_call 15; (with_reducible refine hB.mono ?_); rintro e w5 ⟨rfl, hg5⟩; obtain ⟨bb5, hT5, hO5⟩ := Two.second hL4 hM4 ⟨hn4, hn5⟩ hg5 hO4 (by omega) (by omega); have HT4 := Lib.hid hT5; clear hB hg5 hT5 hO5 hL4 hM4 hO4))
            clear dv
            obtain ⟨v0, v1, hv⟩ : ∃ v0 v1, saidV S = (v0, v1) := ⟨_, _, rfl⟩
            obtain ⟨c, hc⟩ : ∃ c, saidB S = c := ⟨_, rfl⟩
            obtain ⟨r, hr⟩ : ∃ r, (S).root = r := ⟨_, rfl⟩
            obtain ⟨mm, hmm⟩ : ∃ mm, decide ((S).root = (S).me) = mm := ⟨_, rfl⟩
            have hM1 := mark_at' HT4.out.one.node hv hc
            have HM2 := Lib.hid (fun W (h : Two w W s1_0 s1_1 ga ba4 gb bb5 (n) S) => mark_at' h.two.node hv hc)
            have HR1 := Lib.hid (fun W (h : Two w W s1_0 s1_1 ga ba4 gb bb5 (n) S) => root_at' h.one.node hr)
            have HR2 := Lib.hid (fun W (h : Two w W s1_0 s1_1 ga ba4 gb bb5 (n) S) => root_at' h.two.node hr)
            have HN1 := Lib.hid (fun W (h : Two w W s1_0 s1_1 ga ba4 gb bb5 (n) S) => mine_at h.one.node hmm)
            have HN2 := Lib.hid (fun W (h : Two w W s1_0 s1_1 ga ba4 gb bb5 (n) S) => mine_at h.two.node hmm)
            have dr : (r != r) = false := by simp
            have dm : (mm != mm) = false := by cases mm <;> rfl
            have dc : (c != c) = false := by cases c <;> rfl
            have e0 : (v0 == v0) = true := by simp
            have e1 : (v1 == v1) = true := by simp
            clear hv hc hr hmm
            go_wp2_with (first
              | (go_at_call 11; (with_reducible refine hM1.mono ?_); rintro e w6 ⟨rfl, hb6⟩; have HT6 := Lib.hid ((HT4.out.below hb6).below (below_alloc _ (.cells #[.int .u16 v0, .int .u16 v1] 33))); have HX6 := Lib.hid (Holds.new w6 33 #[.int .u16 v0, .int .u16 v1]); have hM2 := HM2.out _ HT6.out; have hlt6 := HX6.out.lt; clear hM1 hb6)
              | (go_at_call 11; (with_reducible refine hM2.mono ?_); rintro e w7 ⟨rfl, hb7⟩; have HT7 := Lib.hid ((HT6.out.below hb7).below (below_alloc _ (.cells #[.int .u16 v0, .int .u16 v1] 33))); have HX7 := Lib.hid (HX6.out.below hb7 hlt6); have z0 := HX7.out.cell 0; have z1 := HX7.out.cell 1; have hz7 := HX7.out.lt; have hR1 := HR1.out _ HT7.out; have hR2 := HR2.out _ HT7.out; have hN1 := HN1.out _ HT7.out; clear hM2 hb7)
              | (go_at_call 13; (with_reducible refine hR1.mono ?_); rintro e wx ⟨rfl, hwx⟩; subst wx)
              | (go_at_call 13; (with_reducible refine hR2.mono ?_); rintro e wx ⟨rfl, hwx⟩; subst wx)
              | (go_at_call 14; (with_reducible refine hN1.mono ?_); rintro e wx ⟨rfl, nq1, rfl⟩; have HT8 := Lib.hid (HT7.out.below (below_drewN (Below.refl _ _) nq1)); have hN2 := HN2.out _ HT8.out)
              | (go_at_call 14; (with_reducible refine hN2.mono ?_); rintro e wx ⟨rfl, nq2, rfl⟩))
            go_roundw
            case rel => exact ⟨k + 1, ba4, bb5, n, S, by omega, by go_num, by omega, HT7.out.below (below_drewN (Below.refl _ _) _)⟩
            case measure => simp [intOf]; omega
        · obtain ⟨i0, i1, hV⟩ : ∃ i0 i1, issueV s = (i0, i1) := ⟨_, _, rfl⟩
          obtain ⟨ic, hic⟩ : ∃ ic, decide (s.root = s.me) = ic := ⟨_, rfl⟩
          obtain ⟨S, hS⟩ : ∃ S, issueS s = S := ⟨_, rfl⟩
          have g0 : (i0 == i0) = true := by simp
          have g1 : (i1 == i1) = true := by simp
          have dv : (ic != ic) = false := by cases ic <;> rfl
          have HA := Lib.hid (issue_at' HT1.out.one.node hV hic hS)
          have HBc := Lib.hid (fun W (h : Lw w W s1_0 s1_1 gb bb n s) => issue_at' h.node hV hic hS)
          clear hV hS hic hways
          go_upto_region 31 with (first
            | (go_at_call 12; (with_reducible refine HA.out.mono ?_); rintro e w4 ⟨rfl, hg4⟩; obtain ⟨ba4, hL4, hM4, hn4, hn5, hO4, -, hz4⟩ := HT1.out.first hg4 HO.out (by omega) (by omega); obtain ⟨hp1, hp2⟩ := hM4.apart; have hb4 := below_alloc w4 (.cells #[.int .u16 i0, .int .u16 i1] 33); replace hL4 := hL4.below hb4; replace hM4 := hM4.below hb4; have hO4 := Holds.new w4 33 #[.int .u16 i0, .int .u16 i1]; have hs1 := hz4; have hB := HBc.out _ hM4; clear hg4 hb4)
            | (go_at_call 12; (with_reducible refine hB.mono ?_); rintro e w5 ⟨rfl, hg5⟩; obtain ⟨bb5, hT5, hO5⟩ := Two.second hL4 hM4 ⟨hn4, hn5⟩ hg5 hO4 (by omega) (by omega); have HT4 := Lib.hid hT5; have HO5 := Lib.hid hO5; have x0 := hO5.cell 0; have x1 := hO5.cell 1; have hlo := hO5.lt; clear hB hg5 hT5 hO5 hL4 hM4 hO4; replace HT4 := Lib.hid (HT4.out.below (below_alloc _ (.cells #[.int .u16 i0, .int .u16 i1] 33)))))
          clear dv g0 g1
          obtain ⟨v0, v1, hv⟩ : ∃ v0 v1, saidV S = (v0, v1) := ⟨_, _, rfl⟩
          obtain ⟨c, hc⟩ : ∃ c, saidB S = c := ⟨_, rfl⟩
          obtain ⟨r, hr⟩ : ∃ r, (S).root = r := ⟨_, rfl⟩
          obtain ⟨mm, hmm⟩ : ∃ mm, decide ((S).root = (S).me) = mm := ⟨_, rfl⟩
          have hM1 := mark_at' HT4.out.one.node hv hc
          have HM2 := Lib.hid (fun W (h : Two w W s1_0 s1_1 ga ba4 gb bb5 (n) S) => mark_at' h.two.node hv hc)
          have HR1 := Lib.hid (fun W (h : Two w W s1_0 s1_1 ga ba4 gb bb5 (n) S) => root_at' h.one.node hr)
          have HR2 := Lib.hid (fun W (h : Two w W s1_0 s1_1 ga ba4 gb bb5 (n) S) => root_at' h.two.node hr)
          have HN1 := Lib.hid (fun W (h : Two w W s1_0 s1_1 ga ba4 gb bb5 (n) S) => mine_at h.one.node hmm)
          have HN2 := Lib.hid (fun W (h : Two w W s1_0 s1_1 ga ba4 gb bb5 (n) S) => mine_at h.two.node hmm)
          have dr : (r != r) = false := by simp
          have dm : (mm != mm) = false := by cases mm <;> rfl
          have dc : (c != c) = false := by cases c <;> rfl
          have e0 : (v0 == v0) = true := by simp
          have e1 : (v1 == v1) = true := by simp
          clear hv hc hr hmm
          go_wp2_with (first
            | (go_at_call 11; (with_reducible refine hM1.mono ?_); rintro e w6 ⟨rfl, hb6⟩; have HT6 := Lib.hid ((HT4.out.below hb6).below (below_alloc _ (.cells #[.int .u16 v0, .int .u16 v1] 33))); have HX6 := Lib.hid (Holds.new w6 33 #[.int .u16 v0, .int .u16 v1]); have hM2 := HM2.out _ HT6.out; have hlt6 := HX6.out.lt; clear hM1 hb6)
            | (go_at_call 11; (with_reducible refine hM2.mono ?_); rintro e w7 ⟨rfl, hb7⟩; have HT7 := Lib.hid ((HT6.out.below hb7).below (below_alloc _ (.cells #[.int .u16 v0, .int .u16 v1] 33))); have HX7 := Lib.hid (HX6.out.below hb7 hlt6); have z0 := HX7.out.cell 0; have z1 := HX7.out.cell 1; have hz7 := HX7.out.lt; have hR1 := HR1.out _ HT7.out; have hR2 := HR2.out _ HT7.out; have hN1 := HN1.out _ HT7.out; clear hM2 hb7)
            | (go_at_call 13; (with_reducible refine hR1.mono ?_); rintro e wx ⟨rfl, hwx⟩; subst wx)
            | (go_at_call 13; (with_reducible refine hR2.mono ?_); rintro e wx ⟨rfl, hwx⟩; subst wx)
            | (go_at_call 14; (with_reducible refine hN1.mono ?_); rintro e wx ⟨rfl, nq1, rfl⟩; have HT8 := Lib.hid (HT7.out.below (below_drewN (Below.refl _ _) nq1)); have hN2 := HN2.out _ HT8.out)
            | (go_at_call 14; (with_reducible refine hN2.mono ?_); rintro e wx ⟨rfl, nq2, rfl⟩))
          go_roundw
          case rel => exact ⟨k + 1, ba4, bb5, n, S, by omega, by go_num, by omega, HT7.out.below (below_drewN (Below.refl _ _) _)⟩
          case measure => simp [intOf]; omega
        · have HA := Lib.hid (boot_at HT1.out.one.node s2 f2)
          have HBc := Lib.hid (fun W (h : Lw w W s1_0 s1_1 gb bb n s) => boot_at h.node s2 f2)
          clear hways
          go_upto_region 31 with (first
            | (go_at_call 10; (with_reducible refine HA.out.mono ?_); rintro e w4 ⟨rfl, hg4⟩; obtain ⟨ba4, hL4, hM4, hn4, hn5, hO4, -, hz4⟩ := HT1.out.first hg4 HO.out (by omega) (by omega); have hB := HBc.out _ hM4; have x2 := hO4.cell 2; clear hg4)
            | (go_at_call 10; (with_reducible refine hB.mono ?_); rintro e w5 ⟨rfl, hg5⟩; obtain ⟨bb5, hT5, hO5⟩ := Two.second hL4 hM4 ⟨hn4, hn5⟩ hg5 hO4 (by omega) (by omega); have HT4 := Lib.hid hT5; clear hB hg5 hT5 hO5 hL4 hM4 hO4 x2))
          obtain ⟨S, hS⟩ : ∃ S, bootS s s2 = S := ⟨_, rfl⟩
          rw [hS] at HT4
          clear hS
          obtain ⟨v0, v1, hv⟩ : ∃ v0 v1, saidV S = (v0, v1) := ⟨_, _, rfl⟩
          obtain ⟨c, hc⟩ : ∃ c, saidB S = c := ⟨_, rfl⟩
          obtain ⟨r, hr⟩ : ∃ r, (S).root = r := ⟨_, rfl⟩
          obtain ⟨mm, hmm⟩ : ∃ mm, decide ((S).root = (S).me) = mm := ⟨_, rfl⟩
          have hM1 := mark_at' HT4.out.one.node hv hc
          have HM2 := Lib.hid (fun W (h : Two w W s1_0 s1_1 ga ba4 gb bb5 (0) S) => mark_at' h.two.node hv hc)
          have HR1 := Lib.hid (fun W (h : Two w W s1_0 s1_1 ga ba4 gb bb5 (0) S) => root_at' h.one.node hr)
          have HR2 := Lib.hid (fun W (h : Two w W s1_0 s1_1 ga ba4 gb bb5 (0) S) => root_at' h.two.node hr)
          have HN1 := Lib.hid (fun W (h : Two w W s1_0 s1_1 ga ba4 gb bb5 (0) S) => mine_at h.one.node hmm)
          have HN2 := Lib.hid (fun W (h : Two w W s1_0 s1_1 ga ba4 gb bb5 (0) S) => mine_at h.two.node hmm)
          have dr : (r != r) = false := by simp
          have dm : (mm != mm) = false := by cases mm <;> rfl
          have dc : (c != c) = false := by cases c <;> rfl
          have e0 : (v0 == v0) = true := by simp
          have e1 : (v1 == v1) = true := by simp
          clear hv hc hr hmm
          go_wp2_with (first
            | (go_at_call 11; (with_reducible refine hM1.mono ?_); rintro e w6 ⟨rfl, hb6⟩; have HT6 := Lib.hid ((HT4.out.below hb6).below (below_alloc _ (.cells #[.int .u16 v0, .int .u16 v1] 33))); have HX6 := Lib.hid (Holds.new w6 33 #[.int .u16 v0, .int .u16 v1]); have hM2 := HM2.out _ HT6.out; have hlt6 := HX6.out.lt; clear hM1 hb6)
            | (go_at_call 11; (with_reducible refine hM2.mono ?_); rintro e w7 ⟨rfl, hb7⟩; have HT7 := Lib.hid ((HT6.out.below hb7).below (below_alloc _ (.cells #[.int .u16 v0, .int .u16 v1] 33))); have HX7 := Lib.hid (HX6.out.below hb7 hlt6); have z0 := HX7.out.cell 0; have z1 := HX7.out.cell 1; have hz7 := HX7.out.lt; have hR1 := HR1.out _ HT7.out; have hR2 := HR2.out _ HT7.out; have hN1 := HN1.out _ HT7.out; clear hM2 hb7)
            | (go_at_call 13; (with_reducible refine hR1.mono ?_); rintro e wx ⟨rfl, hwx⟩; subst wx)
            | (go_at_call 13; (with_reducible refine hR2.mono ?_); rintro e wx ⟨rfl, hwx⟩; subst wx)
            | (go_at_call 14; (with_reducible refine hN1.mono ?_); rintro e wx ⟨rfl, nq1, rfl⟩; have HT8 := Lib.hid (HT7.out.below (below_drewN (Below.refl _ _) nq1)); have hN2 := HN2.out _ HT8.out)
            | (go_at_call 14; (with_reducible refine hN2.mono ?_); rintro e wx ⟨rfl, nq2, rfl⟩))
          go_roundw
          case rel => exact ⟨k + 1, ba4, bb5, 0, S, by omega, by go_num, by omega, HT7.out.below (below_drewN (Below.refl _ _) _)⟩
          case measure => simp [intOf]; omega
        · obtain ⟨ba4, hba⟩ : ∃ ba4, ba = ba4 := ⟨_, rfl⟩
          rw [hba] at HT1 hbo
          clear hways hba
          have HT4 := HT1
          go_upto_region 31 with fail
          obtain ⟨v0, v1, hv⟩ : ∃ v0 v1, saidV s = (v0, v1) := ⟨_, _, rfl⟩
          obtain ⟨c, hc⟩ : ∃ c, saidB s = c := ⟨_, rfl⟩
          obtain ⟨r, hr⟩ : ∃ r, (s).root = r := ⟨_, rfl⟩
          obtain ⟨mm, hmm⟩ : ∃ mm, decide ((s).root = (s).me) = mm := ⟨_, rfl⟩
          have hM1 := mark_at' HT4.out.one.node hv hc
          have HM2 := Lib.hid (fun W (h : Two w W s1_0 s1_1 ga ba4 gb bb (n) s) => mark_at' h.two.node hv hc)
          have HR1 := Lib.hid (fun W (h : Two w W s1_0 s1_1 ga ba4 gb bb (n) s) => root_at' h.one.node hr)
          have HR2 := Lib.hid (fun W (h : Two w W s1_0 s1_1 ga ba4 gb bb (n) s) => root_at' h.two.node hr)
          have HN1 := Lib.hid (fun W (h : Two w W s1_0 s1_1 ga ba4 gb bb (n) s) => mine_at h.one.node hmm)
          have HN2 := Lib.hid (fun W (h : Two w W s1_0 s1_1 ga ba4 gb bb (n) s) => mine_at h.two.node hmm)
          have dr : (r != r) = false := by simp
          have dm : (mm != mm) = false := by cases mm <;> rfl
          have dc : (c != c) = false := by cases c <;> rfl
          have e0 : (v0 == v0) = true := by simp
          have e1 : (v1 == v1) = true := by simp
          clear hv hc hr hmm
          go_wp2_with (first
            | (go_at_call 11; (with_reducible refine hM1.mono ?_); rintro e w6 ⟨rfl, hb6⟩; have HT6 := Lib.hid ((HT4.out.below hb6).below (below_alloc _ (.cells #[.int .u16 v0, .int .u16 v1] 33))); have HX6 := Lib.hid (Holds.new w6 33 #[.int .u16 v0, .int .u16 v1]); have hM2 := HM2.out _ HT6.out; have hlt6 := HX6.out.lt; clear hM1 hb6)
            | (go_at_call 11; (with_reducible refine hM2.mono ?_); rintro e w7 ⟨rfl, hb7⟩; have HT7 := Lib.hid ((HT6.out.below hb7).below (below_alloc _ (.cells #[.int .u16 v0, .int .u16 v1] 33))); have HX7 := Lib.hid (HX6.out.below hb7 hlt6); have z0 := HX7.out.cell 0; have z1 := HX7.out.cell 1; have hz7 := HX7.out.lt; have hR1 := HR1.out _ HT7.out; have hR2 := HR2.out _ HT7.out; have hN1 := HN1.out _ HT7.out; clear hM2 hb7)
            | (go_at_call 13; (with_reducible refine hR1.mono ?_); rintro e wx ⟨rfl, hwx⟩; subst wx)
            | (go_at_call 13; (with_reducible refine hR2.mono ?_); rintro e wx ⟨rfl, hwx⟩; subst wx)
            | (go_at_call 14; (with_reducible refine hN1.mono ?_); rintro e wx ⟨rfl, nq1, rfl⟩; have HT8 := Lib.hid (HT7.out.below (below_drewN (Below.refl _ _) nq1)); have hN2 := HN2.out _ HT8.out)
            | (go_at_call 14; (with_reducible refine hN2.mono ?_); rintro e wx ⟨rfl, nq2, rfl⟩))
          go_roundw
          case rel => exact ⟨k + 1, ba4, bb, n, s, by omega, by go_num, by omega, HT7.out.below (below_drewN (Below.refl _ _) _)⟩
          case measure => simp [intOf]; omega
      · have hkn : k = n2 := by omega
        have hlt' : decide ((k : Int) < (n2 : Int)) = false := decide_eq_false (by omega)
        go_wp2
        go_ret
        exact ⟨rfl, HT.out.one.law⟩

set_option maxRecDepth 100000 in
theorem lifted (os : Os) (started : os.Started) (H : Type) (enc : TypeId × Value → H) :
    ReturnsInHanded {} Try.checked os 7 .any (Rows.electDeafSpec.pre6 enc Try.prog Try.f7 Rows.electDeafRow.domain false) (Rows.electDeafSpec.post enc Try.prog Try.f7 false true false false) := by
  refine returnsInHanded_of_change (C := Try.checked) own started (by kernel_rfl) Try.func7
    (ChangeSpec.witness6 (enc := enc) (C := Try.checked) false ⟨#[], #[.int .i64 0, .agg #[.int .i64 0, .int .i64 0], .slice none 0 0], []⟩ 8 (by kernel_rfl) (by kernel_rfl) (by kernel_rfl) (by kernel_rfl)) ?_
  intro W base args ds gs before hval0 hW hcnd _
  have hval : ∀ (j : Nat) t v, Try.f7.params[j]? = some t → args[j]? = some v → Value.okWide Try.prog W .any base t v := hval0
  have hW' := hW
  obtain ⟨p, q, hA0, hV, rfl, hfz, hnd⟩ := hW
  have hA : DataW.TrodAll enc Try.prog W 0 (fun _ => true) true Try.f7.params.toList args.toList ds p := hA0
  have hAk := hA
  rw [Try.params7] at hA hval
  obtain ⟨v0, vs0, d0, ds0, p0, q0, hargs, rfl, hp, h0, r0⟩ := trodAll_cons hA
  obtain ⟨v1, vs1, d1, ds1, p1, q1, rfl, rfl, rfl, h1, r1⟩ := trodAll_cons r0
  obtain ⟨v2, vs2, d2, ds2, p2, q2, rfl, rfl, rfl, h2, r2⟩ := trodAll_cons r1
  obtain ⟨rfl, rfl, rfl⟩ := trodAll_nil r2
  obtain rfl : args = #[v0, v1, v2] := by cases args; simp_all
  obtain ⟨rfl, rfl⟩ := trodVars_none hV
  clear hA0 hval0 hargs
  simp only [List.append_nil] at hW'
  have hend : ∀ W' : World, Below W.heap.size W W' → Rows.electDeafSpec.post enc Try.prog Try.f7 false true false false W #[v0, v1, v2] (.bool true) W' := fun W' hb =>
    law_post (tb := 4) hW' hAk rfl (by kernel_rfl) (by kernel_rfl) (by kernel_rfl) Try.underlying4 rfl rfl rfl hb
  clear hW' hAk hp
  obtain ⟨a0, rfl, rfl, rfl, w0⟩ := open_int Try.underlying3 (hval 0 3 v0 rfl rfl) h0
  obtain ⟨ns1, rfl, hl1, hw1⟩ := ints_struct (ks := [.i64, .i64]) Try.underlying23 (by kernel_rfl) (by kernel_rfl) (by kernel_rfl) (hval 1 23 v1 rfl rfl) h1
  obtain ⟨s1_0, s1_1, rfl⟩ := split2 hl1
  clear hl1
  obtain ⟨A2, n2, c2, f2, rfl, w2⟩ := flats_arg (ks := [.int .i64, .int .i64, .int .u16, .int .u16]) 9 Try.underlying24 (by kernel_rfl) (by kernel_rfl) (by decide) (hval 2 24 v2 rfl rfl) h2
  refine (walk a0 s1_0 s1_1 A2 n2 c2 f2 W w0 (hw1 0 _ _ rfl rfl) (hw1 1 _ _ rfl rfl) w2).mono fun e W' ⟨he, hg⟩ => ?_
  subst he
  exact ⟨_, rfl, hend W' hg⟩

theorem over : Rows.electDeafRow.holds Try.pinned (OpenSpec.ofChange Rows.electDeafSpec) :=
  OpenClaim.holds_of_wide 7 Try.f7 rfl rfl rfl rfl rfl rfl rfl ⟨rfl, rfl, rfl, rfl, rfl⟩ rfl rfl rfl rfl rfl (by kernel_rfl) Try.func7 (by kernel_rfl)
    (of_decide_eq_true (by kernel_rfl)) (by unfold Func.isWrapper; first | (rw [if_pos (by decide +kernel)]; kernel_rfl) | (rw [if_neg (by decide +kernel)]; exact ⟨rfl, rfl⟩))
    (fun os started H enc _ => lifted os started H enc)

/-- THE STATEMENT -/
theorem proved : Rows.ElectDeafSaid :=
  over
#print axioms proved
end Go.Proofs.Ytpcbbpcibmpopaa.electDeaf
