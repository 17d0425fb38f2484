/-
  A node that hears nothing new for Timeout rounds takes itself for the root, not sooner; then it hears no other one for Ignore rounds, and then it does: for every node, all rules, roots and lives the law answers true; without conditions.
  The walk is the prover's own; the frame of the row's step follows the kit's template.
-/
import Derived.Test.YtpcbbpcibmpopaaRows
import Derived.Test.YtpcbbpcibmpopaaLawKit
import Derived.Test.YtpcbbpcibmpopaaStructArg
import Derived.Test.YtpcbbpcibmpopaaElK
import Derived.LoopTactic
import Derived.Deep.CutBlock
namespace Go.Proofs.Ytpcbbpcibmpopaa.electWaits
open Go.ChangeShapes Go.WideShapes Go.ChangeAt Go.RowKit Go.ChangeMaps Go.WideElems
set_option linter.unusedVariables false

theorem split2 {ns : List Int} (h : ns.length = 2) : ∃ s1_0 s1_1 : Int, ns = [s1_0, s1_1] := by
  match ns, h with
  | [y0, y1], _ => exact ⟨_, _, rfl⟩
theorem own : ownKnob Try.prog.godebug = none := by kernel_rfl
/-- A node behind its first word. -/
def baseS (me t e r x : Int) : St := hearS (newS me t e 0) r x 1
def canB (me r : Int) : Bool := decide (0 ≤ r) && decide (r < me)
/-- The node behind so many rounds. -/
def waitS (s : St) (i : Nat) : St := if (i : Int) < s.tmo then { s with waited := i } else { s with root := s.me, waited := 0, quiet := s.ign }
def rootS (s : St) (j : Int) : St := { s with root := s.me, waited := 0, quiet := s.ign - j }
theorem can_iff (me r : Int) : canB me r = true ↔ (0 ≤ r ∧ r < me) := by simp [canB]
theorem can_no {me r : Int} (h : canB me r = false) : ¬ (0 ≤ r ∧ r < me) := fun e => by
  rw [(can_iff me r).2 e] at h
  cases h
theorem first_can {me t e r x : Int} (hm : 0 ≤ me) (h : canB me r = true) : takeB (newS me t e 0) r x 1 = true ∧ hearV (newS me t e 0) r x 1 = 2 := by
  obtain ⟨h0, h1⟩ := (can_iff me r).1 h
  have hh : heedB (newS me t e 0) r = true := heed_yes ⟨h0, h1, by
    show if (-1 : Int) = me then (0 : Int) = 0 else ((-1 : Int) = -1 ∨ r ≤ -1)
    rw [if_neg (by omega)]
    exact .inl rfl⟩
  have ht : takeB (newS me t e 0) r x 1 = true := by unfold takeB; rw [hh]; rfl
  have hv : movB (newS me t e 0) r x = true := decide_eq_true (.inl (show r ≠ -1 by omega))
  exact ⟨ht, by unfold hearV; rw [ht, hv]; rfl⟩
theorem no_heed {s : St} {r : Int} (h : ¬ (0 ≤ r ∧ r < s.me)) (x q : Int) : takeB s r x q = false := by
  unfold takeB
  rw [heed_no (fun e => h ⟨e.1, e.2.1⟩)]
  rfl
theorem refused {s : St} {r x q : Int} (h : takeB s r x q = false) : hearV s r x q = 0 ∧ hearS s r x q = s := by
  unfold hearV hearS
  rw [h]
  exact ⟨rfl, rfl⟩
/-- What is known of the node behind its first word. -/
structure Base (s : St) (me t e r x : Int) : Prop where
  hme : s.me = me
  htmo : s.tmo = t
  hign : s.ign = e
  hwait : s.waited = 0
  hroot : s.root ≠ me
  knows : canB me r = true → s.f r = some (x, 1)
theorem base_is {me t e r x : Int} (hm : 0 ≤ me) : Base (baseS me t e r x) me t e r x ∧ hearV (newS me t e 0) r x 1 = if canB me r = true then 2 else 0 := by
  unfold baseS
  cases h : canB me r with
  | true =>
    obtain ⟨h1, h2⟩ := first_can (t := t) (e := e) (x := x) hm h
    obtain ⟨k0, k1⟩ := (can_iff me r).1 h
    refine ⟨?_, by rw [h2]; rfl⟩
    unfold hearS
    rw [h1]
    simp only [if_pos]
    exact ⟨rfl, rfl, rfl, rfl, (show r ≠ me by omega), fun _ => if_pos rfl⟩
  | false =>
    obtain ⟨h1, h2⟩ := refused (no_heed (s := newS me t e 0) (can_no h) x 1)
    rw [h1, h2]
    exact ⟨⟨rfl, rfl, rfl, rfl, (show (-1 : Int) ≠ me by omega), fun e => by rw [h] at e; cases e⟩, by simp⟩
section
variable {s : St} {me t e r x : Int}
theorem wait_zero (h : Base s me t e r x) (ht : 1 ≤ t) : waitS s 0 = s := by
  unfold waitS
  rw [if_pos (by rw [h.htmo]; omega)]
  have := h.hwait
  cases s
  simp at this ⊢
  exact this.symm
theorem known_no {s' : St} (hf : s'.f = s.f) (hme : s'.me = me) (h : Base s me t e r x) : takeB s' r x 1 = false := by
  cases hc : canB me r with
  | false => exact no_heed (by rw [hme]; exact can_no hc) _ _
  | true =>
    unfold takeB freshB
    rw [hf, h.knows hc]
    simp [newM_self]
theorem wait_hear (h : Base s me t e r x) {i : Nat} (hi : (i : Int) < t) : hearV (waitS s i) r x 1 = 0 ∧ hearS (waitS s i) r x 1 = waitS s i := by
  refine refused (known_no ?_ ?_ h)
  · unfold waitS; rw [if_pos (by rw [h.htmo]; exact hi)]
  · unfold waitS; rw [if_pos (by rw [h.htmo]; exact hi)]; exact h.hme
theorem wait_beat (h : Base s me t e r x) {i : Nat} (hi : (i : Int) < t) : beatB (waitS s i) = decide ((i : Int) + 1 = t) ∧ beatS (waitS s i) = waitS s (i + 1) := by
  have ht := h.htmo
  have e1 : waitS s i = { s with waited := (i : Int) } := by unfold waitS; rw [if_pos (by rw [ht]; exact hi)]
  have hr : ¬ s.root = s.me := by rw [h.hme]; exact h.hroot
  rw [e1]
  refine ⟨?_, ?_⟩
  · unfold beatB
    by_cases e2 : (i : Int) + 1 = t
    · rw [decide_eq_true e2]
      exact decide_eq_true ⟨hr, show s.tmo ≤ (i : Int) + 1 by omega⟩
    · rw [decide_eq_false e2]
      refine decide_eq_false (fun k => ?_)
      have : s.tmo ≤ (i : Int) + 1 := k.2
      omega
  · unfold beatS waitS
    rw [if_neg (show ¬ s.root = s.me from hr)]
    by_cases e2 : (i : Int) + 1 < s.tmo
    · rw [if_pos (show (i : Int) + 1 < s.tmo from e2), if_pos (show ((i + 1 : Nat) : Int) < s.tmo by omega)]
      simp
    · rw [if_neg (show ¬ (i : Int) + 1 < s.tmo from e2), if_neg (show ¬ ((i + 1 : Nat) : Int) < s.tmo by omega)]
theorem wait_end (h : Base s me t e r x) {i : Nat} (hi : ¬ (i : Int) < t) : waitS s i = rootS s 0 := by
  unfold waitS rootS
  rw [if_neg (by rw [h.htmo]; exact hi)]
  simp
theorem root_hear (h : Base s me t e r x) {j : Int} (hj : j < e) : hearV (rootS s j) r x 2 = 0 ∧ hearS (rootS s j) r x 2 = rootS s j := by
  refine refused ?_
  unfold takeB
  rw [heed_no (fun k => ?_)]
  · rfl
  · have k3 := k.2.2
    rw [if_pos (show (rootS s j).root = (rootS s j).me from rfl)] at k3
    have : s.ign - j = 0 := k3
    have := h.hign
    omega
theorem root_beat (h : Base s me t e r x) {j : Int} (hj : j < e) : beatB (rootS s j) = false ∧ beatS (rootS s j) = rootS s (j + 1) := by
  have hi := h.hign
  refine ⟨decide_eq_false (fun k => k.1 rfl), ?_⟩
  unfold beatS
  rw [if_pos (show (rootS s j).root = (rootS s j).me from rfl)]
  unfold rootS
  have : max 0 (s.ign - j - 1) = s.ign - (j + 1) := by omega
  simp only [this]
theorem root_end (h : Base s me t e r x) : hearV (rootS s e) r x 2 = if canB me r = true then 2 else 0 := by
  cases hc : canB me r with
  | false => rw [(refused (no_heed (s := rootS s e) (by rw [show (rootS s e).me = me from h.hme]; exact can_no hc) x 2)).1]; rfl
  | true =>
    obtain ⟨k0, k1⟩ := (can_iff me r).1 hc
    have hh : heedB (rootS s e) r = true := heed_yes ⟨k0, (show r < s.me by rw [h.hme]; exact k1), by
      show if s.me = s.me then s.ign - e = 0 else (s.me = -1 ∨ r ≤ s.me)
      rw [if_pos rfl, h.hign]
      omega⟩
    have hfr : freshB (rootS s e) r x 2 = true := by
      unfold freshB
      rw [show (rootS s e).f = s.f from rfl, h.knows hc]
      show newM x 2 x 1 = true
      unfold newM
      rw [if_pos rfl]
      decide
    have hmv : movB (rootS s e) r x = true := decide_eq_true (.inl (show r ≠ s.me by rw [h.hme]; omega))
    unfold hearV takeB
    rw [hh, hfr, hmv]
    rfl
end
set_option linter.unusedSimpArgs false in
set_option maxHeartbeats 4000000 in
set_option maxRecDepth 100000 in
theorem walk (a0 : Int) (s1_0 s1_1 : Int) (a2 : Int) (a3 : Int) (w : World) (w0 : (Lit.int .i64 a0).wf = true) (w1_0 : (Lit.int .i64 s1_0).wf = true) (w1_1 : (Lit.int .i64 s1_1).wf = true) (w2 : (Lit.int .i64 a2).wf = true) (w3 : (Lit.int .u16 a3).wf = true) :
    Calls Try.prog 6 #[.int .i64 a0, .agg #[.int .i64 s1_0, .int .i64 s1_1], .int .i64 a2, .int .u16 a3] w fun e w' => e = .returned (.bool true) ∧ Below w.heap.size w w' := by
  have HB0 := Lib.hid (Box.start w 23 #[.int .i64 s1_0, .int .i64 s1_1])
  have hx16 := f16_wf w3
  have hr64 := w2
  cases hgd : goodB a0 s1_0 s1_1 with
  | false =>
    have hnew := fun W => new_no W a0 s1_0 s1_1 hgd
    clear hgd
    go_enter Try.func6, Try.ntmps6
    go_wp2_with (first
      | (go_at_call 8; refine (alive_yes _).mono ?_; rintro e w1 ⟨rfl, hb1⟩; have hx1 := HB0.out.next hb1; have HX1 := Lib.hid hx1; have x0 := hx1.holds.cell 0; have x1 := hx1.holds.cell 1; clear hx1)
      | (go_at_call 9; refine (hnew _).mono ?_; rintro e w2 ⟨rfl, hb2⟩))
    go_ret
    exact ⟨rfl, (HX1.out.next hb2).below⟩
  | true =>
    have hnew := fun W => new_yes W a0 s1_0 s1_1 hgd
    obtain ⟨m0, m1, t0, t1, e0, e1⟩ := (good_iff a0 s1_0 s1_1).1 hgd
    obtain ⟨hbase, hfirst⟩ := base_is (t := s1_0) (e := s1_1) (r := a2) (x := a3) m0
    obtain ⟨s0, hs0⟩ : ∃ s0, newS a0 s1_0 s1_1 0 = s0 := ⟨_, rfl⟩
    obtain ⟨s, hs⟩ : ∃ s, hearS s0 a2 a3 1 = s := ⟨_, rfl⟩
    have hbs : baseS a0 s1_0 s1_1 a2 a3 = s := by unfold baseS; rw [hs0, hs]
    rw [hbs] at hbase
    rw [hs0] at hfirst hnew
    have hwz := wait_zero hbase t0
    obtain ⟨c, hc⟩ : ∃ c, canB a0 a2 = c := ⟨_, rfl⟩
    rw [hc] at hfirst
    have hend := root_end hbase
    rw [hc] at hend
    have HBs := Lib.hid hbase
    have hcan : (c = true ∧ decide (0 ≤ a2) = true ∧ decide (a2 < a0) = true) ∨ (c = false ∧ decide (0 ≤ a2) = false) ∨ (c = false ∧ decide (0 ≤ a2) = true ∧ decide (a2 < a0) = false) := by
      rw [← hc]
      by_cases k0 : 0 ≤ a2 <;> by_cases k1 : a2 < a0 <;> simp [canB, k0, k1]
    clear hgd hbs hs0 hc hbase
    have hsec : ∀ (V : Int), hearV s0 a2 a3 1 = V → ((V == 2) = c) := fun V hV => by
      rw [← hV, hfirst]
      cases c <;> rfl
    have hsec2 : (hearV s0 a2 a3 1 == 2) = c := hsec _ rfl
    obtain ⟨V1, hV1⟩ : ∃ V1, hearV s0 a2 a3 1 = V1 := ⟨_, rfl⟩
    rw [hV1] at hsec2
    clear hsec hfirst
    have hsec3 : ∃ V2, hearV (rootS s s1_1) a2 a3 2 = V2 ∧ (V2 == 2) = c := ⟨_, rfl, by rw [hend]; cases c <;> rfl⟩
    obtain ⟨V2, hV2, hsec3⟩ := hsec3
    have HV2 := Lib.hid hV2
    have HV1 := Lib.hid hV1
    have HS := Lib.hid hs
    have HWz := Lib.hid hwz
    clear hend hV2 hV1 hs hwz
    go_enter Try.func6, Try.ntmps6
    rcases hcan with ⟨rfl, d0, d1⟩ | ⟨rfl, d0⟩ | ⟨rfl, d0, d1⟩ <;>
    go_wp2_with (first
        | (go_at_call 8; refine (alive_yes _).mono ?_; rintro e w1 ⟨rfl, hb1⟩; have hx1 := HB0.out.next hb1; have HX1 := Lib.hid hx1; have x0 := hx1.holds.cell 0; have x1 := hx1.holds.cell 1; clear hx1)
        | (go_at_call 9; refine (hnew _).mono ?_; rintro e w2 ⟨g, b, rfl, hE, hb2⟩; have hL := Lw.start HX1.out hE hb2; have hc1 := hear_at hL.node (by omega) a2 a3 1 hr64 hx16 ⟨by decide, by decide⟩ HV1.out HS.out; clear hE)
        | (go_at_call 16; refine hc1.mono ?_; rintro e w3 ⟨rfl, hg3⟩; obtain ⟨b3, hL3, -, -⟩ := hL.next hg3; have HL3 := Lib.hid hL3; clear hL hL3 hg3 hc1))
    all_goals
      clear hnew x0 x1
      go_loopw [12] (fun i wr => ∃ (k b n : Nat), 1 ≤ k ∧ (k : Int) ≤ s1_0 + 1 ∧ i = .int .i64 k ∧ n ≤ k ∧ Lw w wr s1_0 s1_1 g b n (waitS s (k - 1))) (fun i _ => 1001 - (intOf i).toNat)
      case atStart => exact ⟨1, b3, 1, by omega, by omega, rfl, by omega, by rw [HWz.out]; exact HL3.out⟩
      case round =>
        obtain ⟨k, b, n, hk1, hk2, rfl, hn, hL⟩ := hrel
        have HL := Lib.hid hL
        obtain ⟨x0, x1⟩ := hL.cells
        clear hL HL3
        by_cases hlt : (k : Int) ≤ s1_0
        · have dk : decide ((k : Int) ≤ s1_0) = true := decide_eq_true hlt
          obtain ⟨q1, q2⟩ := wait_hear HBs.out (i := k - 1) (by omega)
          obtain ⟨q3, q4⟩ := wait_beat HBs.out (i := k - 1) (by omega)
          rw [show k - 1 + 1 = k by omega] at q4
          rw [show ((k - 1 : Nat) : Int) + 1 = (k : Int) by omega] at q3
          have dd : ((k : Int) == s1_0) = decide ((k : Int) = s1_0) := by by_cases e : (k : Int) = s1_0 <;> simp [e]
          obtain ⟨v, hv⟩ : ∃ v, decide ((k : Int) = s1_0) = v := ⟨_, rfl⟩
          rw [hv] at q3 dd
          have HH := Lib.hid (fun W (h : Lw w W s1_0 s1_1 g b n (waitS s (k - 1))) => hear_at h.node (by omega) a2 a3 1 hr64 hx16 ⟨by decide, by decide⟩ q1 q2)
          have HBt := Lib.hid (fun W b' (h : Lw w W s1_0 s1_1 g b' (n + 1) (waitS s (k - 1))) => beat_at h.node q3 q4)
          clear q1 q2 q3 q4 hv
          go_upto_region 12 with fail
          refine region_turns (fun (w' : World) => w'.cell? ⟨w.heap.size, 0, none⟩ = some (.int .i64 s1_0)) (fun j => decide (15 ≤ j)) (by kernel_rfl) ((HL.out.drewN 1).cells.1) (fun hS => ?_)
          refine Turns.take hS 0 _ rfl (by kernel_rfl) (by kernel_rfl) (by kernel_rfl) (by kernel_rfl) (fun _ _ _ h => h) (by rfl) (fun w' hS' => by (try dsimp only at hS'); go_split_ands; go_simp; (try with_reducible rfl)) ?_
          simp only [Act.put, List.getElem_toArray, List.getElem_cons_succ, List.getElem_cons_zero, List.setIfInBounds_toArray, List.set_cons_zero, List.set_cons_succ]
          refine Turns.take hS 1 _ rfl (by kernel_rfl) (by kernel_rfl) (by kernel_rfl) (by kernel_rfl) (fun _ _ _ h => h) (by rfl) (fun w' hS' => by (try dsimp only at hS'); go_split_ands; go_simp; (try with_reducible rfl)) ?_
          simp only [Act.put, List.getElem_toArray, List.getElem_cons_succ, List.getElem_cons_zero, List.setIfInBounds_toArray, List.set_cons_zero, List.set_cons_succ]
          refine Turns.take hS 2 _ rfl (by kernel_rfl) (by kernel_rfl) (by kernel_rfl) (by kernel_rfl) (fun _ _ _ h => h) (by rfl) (fun w' hS' => by (try dsimp only at hS'); go_split_ands; go_simp; (try with_reducible rfl)) ?_
          simp only [Act.put, List.getElem_toArray, List.getElem_cons_succ, List.getElem_cons_zero, List.setIfInBounds_toArray, List.set_cons_zero, List.set_cons_succ]
          refine Turns.take hS 3 _ rfl (by kernel_rfl) (by kernel_rfl) (by kernel_rfl) (by kernel_rfl) (fun _ _ _ h => h) (by rfl) (fun w' hS' => by (try dsimp only at hS'); go_split_ands; go_simp; (try with_reducible rfl)) ?_
          simp only [Act.put, List.getElem_toArray, List.getElem_cons_succ, List.getElem_cons_zero, List.setIfInBounds_toArray, List.set_cons_zero, List.set_cons_succ]
          refine Turns.next 4 rfl (by kernel_rfl) (by rfl) (fun K hK => ?_)
          go_simp
          refine (HH.out _ (HL.out.drewN 1)).mono ?_
          rintro e w4 ⟨rfl, hg4⟩
          obtain ⟨b4, hL4, -, -⟩ := (HL.out.drewN 1).next hg4
          have HL4 := Lib.hid hL4
          clear hL4 hg4
          refine hK.out _ _ (show (fun (w' : World) => w'.cell? ⟨w.heap.size, 0, none⟩ = some (.int .i64 s1_0)) _ from HL4.out.cells.1) ?_
          clear hK K hS
          have hS := (show (fun (w' : World) => w'.cell? ⟨w.heap.size, 0, none⟩ = some (.int .i64 s1_0)) _ from HL4.out.cells.1)
          refine Turns.take hS 5 _ rfl (by kernel_rfl) (by kernel_rfl) (by kernel_rfl) (by kernel_rfl) (fun _ _ _ h => h) (by rfl) (fun w' hS' => by (try dsimp only at hS'); go_split_ands; go_simp; (try with_reducible rfl)) ?_
          simp only [Act.put, List.getElem_toArray, List.getElem_cons_succ, List.getElem_cons_zero, List.setIfInBounds_toArray, List.set_cons_zero, List.set_cons_succ]
          refine Turns.take hS 6 _ rfl (by kernel_rfl) (by kernel_rfl) (by kernel_rfl) (by kernel_rfl) (fun _ _ _ h => h) (by rfl) (fun w' hS' => by (try dsimp only at hS'); go_split_ands; go_simp; (try with_reducible rfl)) ?_
          simp only [Act.put, List.getElem_toArray, List.getElem_cons_succ, List.getElem_cons_zero, List.setIfInBounds_toArray, List.set_cons_zero, List.set_cons_succ]
          refine Turns.take hS 7 _ rfl (by kernel_rfl) (by kernel_rfl) (by kernel_rfl) (by kernel_rfl) (fun _ _ _ h => h) (by rfl) (fun w' hS' => by (try dsimp only at hS'); go_split_ands; go_simp; (try with_reducible rfl)) ?_
          simp only [Act.put, List.getElem_toArray, List.getElem_cons_succ, List.getElem_cons_zero, List.setIfInBounds_toArray, List.set_cons_zero, List.set_cons_succ]
          refine Turns.take hS 9 _ rfl (by kernel_rfl) (by kernel_rfl) (by kernel_rfl) (by kernel_rfl) (fun _ _ _ h => h) (by rfl) (fun w' hS' => by (try dsimp only at hS'); go_split_ands; go_simp; (try with_reducible rfl)) ?_
          simp only [Act.put, List.getElem_toArray, List.getElem_cons_succ, List.getElem_cons_zero, List.setIfInBounds_toArray, List.set_cons_zero, List.set_cons_succ]
          refine Turns.take hS 10 _ rfl (by kernel_rfl) (by kernel_rfl) (by kernel_rfl) (by kernel_rfl) (fun _ _ _ h => h) (by rfl) (fun w' hS' => by (try dsimp only at hS'); go_split_ands; go_simp; (try with_reducible rfl)) ?_
          simp only [Act.put, List.getElem_toArray, List.getElem_cons_succ, List.getElem_cons_zero, List.setIfInBounds_toArray, List.set_cons_zero, List.set_cons_succ]
          refine Turns.take hS 11 _ rfl (by kernel_rfl) (by kernel_rfl) (by kernel_rfl) (by kernel_rfl) (fun _ _ _ h => h) (by rfl) (fun w' hS' => by (try dsimp only at hS'); go_split_ands; go_simp; (try with_reducible rfl)) ?_
          simp only [Act.put, List.getElem_toArray, List.getElem_cons_succ, List.getElem_cons_zero, List.setIfInBounds_toArray, List.set_cons_zero, List.set_cons_succ]
          refine Turns.take hS 12 _ rfl (by kernel_rfl) (by kernel_rfl) (by kernel_rfl) (by kernel_rfl) (fun _ _ _ h => h) (by rfl) (fun w' hS' => by (try dsimp only at hS'); go_split_ands; go_simp; (try with_reducible rfl)) ?_
          simp only [Act.put, List.getElem_toArray, List.getElem_cons_succ, List.getElem_cons_zero, List.setIfInBounds_toArray, List.set_cons_zero, List.set_cons_succ]
          refine Turns.next 8 rfl (by kernel_rfl) (by rfl) (fun K hK => ?_)
          go_simp
          refine (HBt.out _ _ HL4.out).mono ?_
          rintro e w5 ⟨rfl, hg5⟩
          obtain ⟨b5, hL5, -, -⟩ := HL4.out.next hg5
          have HL5 := Lib.hid hL5
          clear hL5 hg5
          refine hK.out _ _ (show (fun (w' : World) => w'.cell? ⟨w.heap.size, 0, none⟩ = some (.int .i64 s1_0)) _ from HL5.out.cells.1) ?_
          clear hK K hS
          have hS := (show (fun (w' : World) => w'.cell? ⟨w.heap.size, 0, none⟩ = some (.int .i64 s1_0)) _ from HL5.out.cells.1)
          refine Turns.take hS 13 _ rfl (by kernel_rfl) (by kernel_rfl) (by kernel_rfl) (by kernel_rfl) (fun _ _ _ h => h) (by rfl) (fun w' hS' => by (try dsimp only at hS'); go_split_ands; go_simp; (try with_reducible rfl)) ?_
          simp only [Act.put, List.getElem_toArray, List.getElem_cons_succ, List.getElem_cons_zero, List.setIfInBounds_toArray, List.set_cons_zero, List.set_cons_succ]
          refine Turns.take hS 14 _ rfl (by kernel_rfl) (by kernel_rfl) (by kernel_rfl) (by kernel_rfl) (fun _ _ _ h => h) (by rfl) (fun w' hS' => by (try dsimp only at hS'); go_split_ands; go_simp; (try with_reducible rfl)) ?_
          simp only [Act.put, List.getElem_toArray, List.getElem_cons_succ, List.getElem_cons_zero, List.setIfInBounds_toArray, List.set_cons_zero, List.set_cons_succ]
          refine Turns.rest (late_done (by kernel_rfl)) ?_
          refine any_tail 15 (by rfl) (by kernel_rfl) ?_
          simp only [List.drop_succ_cons, List.drop_zero]
          clear hS
          have ew := IntWalk.i64_in ((k : Int) + 1) (by omega)
          go_wp2
          go_roundw
          case rel => exact ⟨k + 1, b5, n + 1, by omega, by omega, by go_num, by omega, by rw [show k + 1 - 1 = k by omega]; exact HL5.out⟩
          case measure => simp [intOf]; omega
        · have dk : decide ((k : Int) ≤ s1_0) = false := decide_eq_false hlt
          have hz := wait_end HBs.out (i := k - 1) (by omega)
          have hL0 := HL.out
          rw [hz] at hL0
          have HL0 := Lib.hid hL0
          clear hL0 hz HL
          go_wp2
          go_loopw [13] (fun i wr => ∃ (j b n : Nat), (j : Int) ≤ s1_1 ∧ i = .int .i64 j ∧ n ≤ 1001 + j ∧ Lw w wr s1_0 s1_1 g b n (rootS s j)) (fun i _ => 1001 - (intOf i).toNat)
          case atStart => exact ⟨0, b, n, by omega, rfl, by omega, HL0.out⟩
          case round =>
            obtain ⟨j, b, n, hj, rfl, hn, hL⟩ := hrel
            have HL := Lib.hid hL
            obtain ⟨x0, x1⟩ := hL.cells
            clear hL HL0
            by_cases hjt : (j : Int) < s1_1
            · have dj : decide ((j : Int) < s1_1) = true := decide_eq_true hjt
              obtain ⟨q1, q2⟩ := root_hear HBs.out hjt
              obtain ⟨q3, q4⟩ := root_beat HBs.out hjt
              have HH := Lib.hid (fun W (h : Lw w W s1_0 s1_1 g b n (rootS s j)) => hear_at h.node (by omega) a2 a3 2 hr64 hx16 ⟨by decide, by decide⟩ q1 q2)
              have HBt := Lib.hid (fun W b' (h : Lw w W s1_0 s1_1 g b' (n + 1) (rootS s j)) => beat_at h.node q3 q4)
              clear q1 q2 q3 q4
              have ew := IntWalk.i64_in ((j : Int) + 1) (by omega)
              go_wp2_with (first
                | (go_at_call 16; refine (HH.out _ HL.out).mono ?_; rintro e w4 ⟨rfl, hg4⟩; obtain ⟨b4, hL4, -, -⟩ := HL.out.next hg4; have HL4 := Lib.hid hL4; clear hL4 hg4)
                | (go_at_call 15; refine (HBt.out _ _ HL4.out).mono ?_; rintro e w5 ⟨rfl, hg5⟩; obtain ⟨b5, hL5, -, -⟩ := HL4.out.next hg5; have HL5 := Lib.hid hL5; clear hL5 hg5))
              go_roundw
              case rel => exact ⟨j + 1, b5, n + 1, by omega, by go_num, by omega, HL5.out⟩
              case measure => simp [intOf]; omega
            · have dj : decide ((j : Int) < s1_1) = false := decide_eq_false hjt
              have he : (j : Int) = s1_1 := by omega
              have hL0 := HL.out
              rw [he] at hL0
              have hmn := mine_at hL0.node (v := true) (decide_eq_true rfl)
              have HL0 := Lib.hid hL0
              have HH := Lib.hid (fun W (h : Lw w W s1_0 s1_1 g b n (rootS s s1_1)) => hear_at h.node (by omega) a2 a3 2 hr64 hx16 ⟨by decide, by decide⟩ HV2.out rfl)
              clear hL0 he HL
              go_wp2_with (first
                | (go_at_call 14; refine hmn.mono ?_; rintro e w4 ⟨rfl, nq, rfl⟩; have HL4 := Lib.hid (HL0.out.drewN nq))
                | (go_at_call 16; refine (HH.out _ HL4.out).mono ?_; rintro e w5 ⟨rfl, hg5⟩; obtain ⟨b5, hL5, -, -⟩ := HL4.out.next hg5))
              go_ret
              exact ⟨rfl, hL5.law⟩

set_option maxRecDepth 100000 in
theorem lifted (os : Os) (started : os.Started) (H : Type) (enc : TypeId × Value → H) :
    ReturnsInHanded {} Try.checked os 6 .any (Rows.electWaitsSpec.pre6 enc Try.prog Try.f6 Rows.electWaitsRow.domain false) (Rows.electWaitsSpec.post enc Try.prog Try.f6 false true false false) := by
  refine returnsInHanded_of_change (C := Try.checked) own started (by kernel_rfl) Try.func6
    (ChangeSpec.witness6 (enc := enc) (C := Try.checked) false ⟨#[], #[.int .i64 0, .agg #[.int .i64 0, .int .i64 0], .int .i64 0, .int .u16 0], []⟩ 8 (by kernel_rfl) (by kernel_rfl) (by kernel_rfl) (by kernel_rfl)) ?_
  intro W base args ds gs before hval0 hW hcnd _
  have hval : ∀ (j : Nat) t v, Try.f6.params[j]? = some t → args[j]? = some v → Value.okWide Try.prog W .any base t v := hval0
  have hW' := hW
  obtain ⟨p, q, hA0, hV, rfl, hfz, hnd⟩ := hW
  have hA : DataW.TrodAll enc Try.prog W 0 (fun _ => true) true Try.f6.params.toList args.toList ds p := hA0
  have hAk := hA
  rw [Try.params6] at hA hval
  obtain ⟨v0, vs0, d0, ds0, p0, q0, hargs, rfl, hp, h0, r0⟩ := trodAll_cons hA
  obtain ⟨v1, vs1, d1, ds1, p1, q1, rfl, rfl, rfl, h1, r1⟩ := trodAll_cons r0
  obtain ⟨v2, vs2, d2, ds2, p2, q2, rfl, rfl, rfl, h2, r2⟩ := trodAll_cons r1
  obtain ⟨v3, vs3, d3, ds3, p3, q3, rfl, rfl, rfl, h3, r3⟩ := trodAll_cons r2
  obtain ⟨rfl, rfl, rfl⟩ := trodAll_nil r3
  obtain rfl : args = #[v0, v1, v2, v3] := by cases args; simp_all
  obtain ⟨rfl, rfl⟩ := trodVars_none hV
  clear hA0 hval0 hargs
  simp only [List.append_nil] at hW'
  have hend : ∀ W' : World, Below W.heap.size W W' → Rows.electWaitsSpec.post enc Try.prog Try.f6 false true false false W #[v0, v1, v2, v3] (.bool true) W' := fun W' hb =>
    law_post (tb := 4) hW' hAk rfl (by kernel_rfl) (by kernel_rfl) (by kernel_rfl) Try.underlying4 rfl rfl rfl hb
  clear hW' hAk hp
  obtain ⟨a0, rfl, rfl, rfl, w0⟩ := open_int Try.underlying3 (hval 0 3 v0 rfl rfl) h0
  obtain ⟨ns1, rfl, hl1, hw1⟩ := ints_struct (ks := [.i64, .i64]) Try.underlying23 (by kernel_rfl) (by kernel_rfl) (by kernel_rfl) (hval 1 23 v1 rfl rfl) h1
  obtain ⟨s1_0, s1_1, rfl⟩ := split2 hl1
  clear hl1
  obtain ⟨a2, rfl, rfl, rfl, w2⟩ := open_int Try.underlying3 (hval 2 3 v2 rfl rfl) h2
  obtain ⟨a3, rfl, rfl, rfl, w3⟩ := open_int Try.underlying31 (hval 3 31 v3 rfl rfl) h3
  refine (walk a0 s1_0 s1_1 a2 a3 W w0 (hw1 0 _ _ rfl rfl) (hw1 1 _ _ rfl rfl) w2 w3).mono fun e W' ⟨he, hg⟩ => ?_
  subst he
  exact ⟨_, rfl, hend W' hg⟩

theorem over : Rows.electWaitsRow.holds Try.pinned (OpenSpec.ofChange Rows.electWaitsSpec) :=
  OpenClaim.holds_of_wide 6 Try.f6 rfl rfl rfl rfl rfl rfl rfl ⟨rfl, rfl, rfl, rfl, rfl⟩ rfl rfl rfl rfl rfl (by kernel_rfl) Try.func6 (by kernel_rfl)
    (of_decide_eq_true (by kernel_rfl)) (by unfold Func.isWrapper; first | (rw [if_pos (by decide +kernel)]; kernel_rfl) | (rw [if_neg (by decide +kernel)]; exact ⟨rfl, rfl⟩))
    (fun os started H enc _ => lifted os started H enc)

/-- THE STATEMENT -/
theorem proved : Rows.ElectWaitsSaid :=
  over
#print axioms proved
end Go.Proofs.Ytpcbbpcibmpopaa.electWaits
