/- The document's node: rounds, words, what it tells, how it is laid. -/
import Derived.Test.YtgmeakcfiaopcaaGreatElG
namespace Go.Proofs.YtgmeakcfiaopcaaGreat
open Go.RowKit
set_option linter.unusedVariables false
set_option linter.unusedSimpArgs false

theorem gset' {w V : World} {gm : Nat} (h : w.grownBy V (some gm)) (j : Nat) (u : Value) : w.grownBy (V.setCell ⟨gm, j, none⟩ u) (some gm) := grown_trans h (grown_set _ _ _ _)
/-- What the document's Beat answers, and what becomes of its node. -/
def RBeaten (gm : Nat) (s : St) (w : World) (e : Ending) (w' : World) : Prop := e = .returned (.bool (beatB s)) ∧ Dn w' gm (beatS s) ∧ w.grownBy w' (some gm)
theorem rbeat_any (w : World) (gm : Nat) (s : St) (h : Dn w gm s) (hi : Inv s) : Calls Tryz.prog 44 #[.pointer (some ⟨gm, 0, none⟩)] w (RBeaten gm s w) := by
  obtain ⟨q0, q1⟩ := hi.quiet
  obtain ⟨t0, t1⟩ := hi.waited
  obtain ⟨o0, o1⟩ := hi.tmo
  obtain ⟨c0, c1, c2, _, _, c5, c6, c7⟩ := h.cells
  by_cases hr : s.root = s.me
  · have hB : beatB s = false := by unfold beatB; exact decide_eq_false (fun e => e.1 hr)
    have hS : beatS s = { s with quiet := max 0 (s.quiet - 1) } := by unfold beatS; rw [if_pos hr]
    have d0 : (s.root == s.me) = true := by simp [hr]
    have f7 := h.soft 7
    unfold RBeaten
    rw [hB, hS]
    have HD := Lib.hid h
    clear h hi hB hS hr
    by_cases hq : s.quiet = 0
    · have d1 : decide (0 < s.quiet) = false := decide_eq_false (by omega)
      have hs : ({ s with quiet := max 0 (s.quiet - 1) } : St) = s := by
        have e : max 0 (s.quiet - 1) = s.quiet := by omega
        rw [e]
      rw [hs]
      clear hs hq
      go_enter Tryz.func44, Tryz.ntmps44
      go_wp2
      go_quiet (fail)
      go_wp2
      go_ret
      exact ⟨rfl, HD.out.drewN _, grown_drewN (gself _ _) _⟩
    · have d1 : decide (0 < s.quiet) = true := decide_eq_true (by omega)
      have e1 := IntWalk.i64_in (s.quiet - 1) (by omega)
      have hm : max 0 (s.quiet - 1) = s.quiet - 1 := by omega
      rw [hm]
      clear hm hq
      go_enter Tryz.func44, Tryz.ntmps44
      go_wp2
      go_quiet (fail)
      go_wp2
      go_ret
      exact ⟨rfl, (HD.out.drewN _).put 7 (by decide) _ rfl rfl, gset' (grown_drewN (gself _ _) _) _ _⟩
  · have d0 : (s.root == s.me) = false := by simp [hr]
    have e1 := IntWalk.i64_in (s.waited + 1) (by omega)
    have f6 := h.soft 6
    have hset : ∀ nq, Dn ((w.drewN nq).setCell ⟨gm, 6, none⟩ (.int .i64 (s.waited + 1))) gm { s with waited := s.waited + 1 } := fun nq => (h.drewN nq).put 6 (by decide) _ rfl rfl
    have hgr : ∀ nq, w.grownBy ((w.drewN nq).setCell ⟨gm, 6, none⟩ (.int .i64 (s.waited + 1))) (some gm) := fun nq => gset' (grown_drewN (gself _ _) _) _ _
    have HS := Lib.hid hset
    have HG := Lib.hid hgr
    unfold RBeaten
    by_cases hlt : s.waited + 1 < s.tmo
    · have hB : beatB s = false := by unfold beatB; exact decide_eq_false (fun e => by omega)
      have hS : beatS s = { s with waited := s.waited + 1 } := by unfold beatS; rw [if_neg hr, if_pos hlt]
      have d1 : decide (s.waited + 1 < s.tmo) = true := decide_eq_true hlt
      rw [hB, hS]
      clear h hi hB hS hr hset hgr
      go_enter Tryz.func44, Tryz.ntmps44
      go_wp2
      go_quiet (fail)
      revert nq
      intro n0
      go_upto_region 6 with fail
      have hs0 := HS.out n0
      obtain ⟨k0, k1, _, _, _, _, k6, _⟩ := hs0.cells
      have HS0 := Lib.hid hs0
      clear hs0
      go_quiet (fail)
      go_wp2
      go_ret
      exact ⟨rfl, HS0.out.drewN _, grown_drewN (HG.out _) _⟩
    · have hB : beatB s = true := by unfold beatB; exact decide_eq_true ⟨hr, by omega⟩
      have hS : beatS s = { s with root := s.me, waited := 0, quiet := s.ign } := by unfold beatS; rw [if_neg hr, if_neg hlt]
      have d1 : decide (s.waited + 1 < s.tmo) = false := decide_eq_false hlt
      rw [hB, hS]
      clear h hi hB hS hr hset hgr
      go_enter Tryz.func44, Tryz.ntmps44
      go_wp2
      go_quiet (fail)
      revert nq
      intro n0
      go_upto_region 6 with fail
      have hs0 := HS.out n0
      obtain ⟨k0, k1, _, _, _, _, k6, _⟩ := hs0.cells
      have HS0 := Lib.hid hs0
      have HG0 := Lib.hid (HG.out n0)
      clear hs0 HS HG
      go_quiet (fail)
      revert nq
      intro n1
      go_upto_region 8 with fail
      have hV := HS0.out.drewN n1
      have gV := grown_drewN HG0.out n1
      generalize (((w.drewN n0).setCell ⟨gm, 6, none⟩ (.int .i64 (s.waited + 1))).drewN n1) = V at *
      clear HS0 HG0 k0 k1 k6
      obtain ⟨y0, _, y2, _, _, y5, y6, y7⟩ := hV.cells
      have f5 := hV.soft 5
      have f6 := hV.soft 6
      have f7 := hV.soft 7
      have h1 : Dn (V.setCell ⟨gm, 5, none⟩ (.int .i64 s.me)) gm { s with waited := s.waited + 1, root := s.me } := hV.put 5 (by decide) _ rfl rfl
      have h2 : Dn ((V.setCell ⟨gm, 5, none⟩ (.int .i64 s.me)).setCell ⟨gm, 6, none⟩ (.int .i64 0)) gm { s with waited := 0, root := s.me } := h1.put 6 (by decide) _ rfl rfl
      have h3 : Dn (((V.setCell ⟨gm, 5, none⟩ (.int .i64 s.me)).setCell ⟨gm, 6, none⟩ (.int .i64 0)).setCell ⟨gm, 7, none⟩ (.int .i64 s.ign)) gm { s with root := s.me, waited := 0, quiet := s.ign } := h2.put 7 (by decide) _ rfl rfl
      have HF := Lib.hid (And.intro h3 (gset' (gset' (gset' gV 5 (.int .i64 s.me)) 6 (.int .i64 0)) 7 (.int .i64 s.ign)))
      clear hV gV h1 h2 h3
      go_wp2
      go_ret
      exact ⟨rfl, HF.out.1, HF.out.2⟩
/-- What the document's Hear answers, and what becomes of its node. -/
def RHeard (gm : Nat) (s : St) (r x q : Int) (w : World) (e : Ending) (w' : World) : Prop := e = .returned (.int .i64 (hearV s r x q)) ∧ Dn w' gm (hearS s r x q) ∧ w.grownBy w' (some gm)
theorem rhear_no {gm : Nat} {s : St} {r x q : Int} {w : World} (h : Dn w gm s) (ht : takeB s r x q = false) (V : World) (hb : Below w.heap.size w V) : RHeard gm s r x q w (.returned (.int .i64 0)) V := by
  unfold RHeard hearV hearS
  rw [ht]
  exact ⟨rfl, h.below hb, ⟨hb.os, hb.tape, hb.output, hb.size, fun k hk _ => hb.block k hk⟩⟩
theorem rhear_tail {gm : Nat} {s : St} {i : Nat} {x q v : Int} {w : World} (h : Dn w gm s) (hi : i < 64) (ht : takeB s i x q = true) (hq : s.quiet = 0) (hv : (if movB s i x = true then 2 else 1) = v) (m : Nat) :
    let V := w.drewN m
    let V1 := V.setCell ⟨gm, 8 + i, none⟩ (.bool true)
    let V2 := V1.setCell ⟨gm, 72 + i, none⟩ (.int .u16 x)
    let V3 := V2.setCell ⟨gm, 136 + i, none⟩ (.int .u16 q)
    let V4 := V3.setCell ⟨gm, 5, none⟩ (.int .i64 i)
    let V5 := V4.setCell ⟨gm, 6, none⟩ (.int .i64 0)
    V.cell? ⟨gm, 8 + i, none⟩ = some (.bool (s.f i).isSome) ∧ V.frozen? ⟨gm, 8 + i, none⟩ = false ∧ V1.frozen? ⟨gm, 72 + i, none⟩ = false ∧ V2.frozen? ⟨gm, 136 + i, none⟩ = false ∧ V3.frozen? ⟨gm, 5, none⟩ = false ∧ V4.frozen? ⟨gm, 6, none⟩ = false ∧ V5.frozen? ⟨gm, 7, none⟩ = false ∧
    (∃ u, V1.cell? ⟨gm, 72 + i, none⟩ = some u) ∧ (∃ u, V2.cell? ⟨gm, 136 + i, none⟩ = some u) ∧ V3.cell? ⟨gm, 5, none⟩ = some (.int .i64 s.root) ∧ V4.cell? ⟨gm, 6, none⟩ = some (.int .i64 s.waited) ∧ V5.cell? ⟨gm, 7, none⟩ = some (.int .i64 s.quiet) ∧
    Hid (RHeard gm s i x q w (.returned (.int .i64 v)) (V5.setCell ⟨gm, 7, none⟩ (.int .i64 0))) := by
  intro V V1 V2 V3 V4 V5
  have hV := h.drewN m
  have h3 : Dn V3 gm { s with f := fun j => if j = (i : Int) then some (x, q) else s.f j } := hV.mark hi x q
  have h4 : Dn V4 gm { s with f := fun j => if j = (i : Int) then some (x, q) else s.f j, root := i } := h3.put 5 (by decide) _ rfl rfl
  have h5 : Dn V5 gm { s with f := fun j => if j = (i : Int) then some (x, q) else s.f j, root := i, waited := 0 } := h4.put 6 (by decide) _ rfl rfl
  have h6 : Dn (V5.setCell ⟨gm, 7, none⟩ (.int .i64 0)) gm { s with f := fun j => if j = (i : Int) then some (x, q) else s.f j, root := i, waited := 0, quiet := 0 } := h5.put 7 (by decide) _ rfl rfl
  have hg0 : w.grownBy V (some gm) := grown_drewN (gself w (some gm)) m
  have hg1 : w.grownBy V1 (some gm) := gset' hg0 _ _
  have hg2 : w.grownBy V2 (some gm) := gset' hg1 _ _
  have hg3 : w.grownBy V3 (some gm) := gset' hg2 _ _
  have hg4 : w.grownBy V4 (some gm) := gset' hg3 _ _
  have hg5 : w.grownBy V5 (some gm) := gset' hg4 _ _
  have hg : w.grownBy (V5.setCell ⟨gm, 7, none⟩ (.int .i64 0)) (some gm) := gset' hg5 _ _
  have hfin : RHeard gm s i x q w (.returned (.int .i64 v)) (V5.setCell ⟨gm, 7, none⟩ (.int .i64 0)) := by
    unfold RHeard hearV hearS
    rw [ht]
    simp only [if_pos]
    refine ⟨by rw [hv], ?_, hg⟩
    have e : ({ s with f := fun j => if j = (i : Int) then some (x, q) else s.f j, root := (i : Int), waited := 0, quiet := 0 } : St) = { s with root := (i : Int), waited := 0, f := fun j => if j = (i : Int) then some (x, q) else s.f j } := by
      rw [hq]
    rw [e] at h6
    exact h6
  obtain ⟨cs, hh, hs, _, hat⟩ := hV
  obtain ⟨b1, p, b2, b3, _⟩ := hat i hi
  have g1 : Holds V1 gm 111 (cs.setIfInBounds (8 + i) (.bool true)) := hh.put (8 + i) _
  have g2 : Holds V2 gm 111 ((cs.setIfInBounds (8 + i) (.bool true)).setIfInBounds (72 + i) (.int .u16 x)) := g1.put (72 + i) _
  refine ⟨hh.cell _ |>.trans b1, hh.soft _, g1.soft _, g2.soft _, h3.soft _, h4.soft _, h5.soft _, ⟨.int .u16 p.1, ?_⟩, ⟨.int .u16 p.2, ?_⟩, h3.cells.2.2.2.2.2.1, h4.cells.2.2.2.2.2.2.1, h5.cells.2.2.2.2.2.2.2, Lib.hid hfin⟩
  · rw [g1.cell, Array.getElem?_setIfInBounds_ne (by omega)]
    exact b2
  · rw [g2.cell, Array.getElem?_setIfInBounds_ne (by omega), Array.getElem?_setIfInBounds_ne (by omega)]
    exact b3
set_option maxHeartbeats 4000000 in
theorem rhear_any (w : World) (gm : Nat) (s : St) (h : Dn w gm s) (hi : Inv s) (r x q : Int) (hx : F16 x) (hq : F16 q) : Calls Tryz.prog 36 #[.pointer (some ⟨gm, 0, none⟩), .int .i64 r, .int .u16 x, .int .u16 q] w (RHeard gm s r x q w) := by
  obtain ⟨c0, c1, c2, _, _, c5, c6, c7⟩ := h.cells
  obtain ⟨m0, m1⟩ := hi.me
  obtain ⟨u0, u1⟩ := hi.quiet
  obtain ⟨r0, r1⟩ := hi.root
  have HNo := Lib.hid (fun ht V => rhear_no (x := x) (q := q) (r := r) h ht V)
  by_cases h0 : r < 0
  · have ht : takeB s r x q = false := by unfold takeB; rw [heed_no (by omega)]; rfl
    have HN := Lib.hid (HNo.out ht)
    clear ht h hi HNo
    go_enter Tryz.func36, Tryz.ntmps36
    go_wp2
    go_ret
    exact HN.out _ (Below.refl _ _)
  have d0 : decide (r < 0) = false := decide_eq_false h0
  by_cases h1 : s.me ≤ r
  · have d1 : decide (s.me ≤ r) = true := decide_eq_true h1
    have ht : takeB s r x q = false := by unfold takeB; rw [heed_no (by omega)]; rfl
    have HN := Lib.hid (HNo.out ht)
    clear ht h hi HNo
    go_enter Tryz.func36, Tryz.ntmps36
    go_wp2
    go_ret
    exact HN.out _ (Below.refl _ _)
  have d1 : decide (s.me ≤ r) = false := decide_eq_false h1
  cases hh : heedB s r with
  | false =>
    have ht : takeB s r x q = false := by unfold takeB; rw [hh]; rfl
    have hcase : ((s.root == s.me) = true ∧ decide (0 < s.quiet) = true) ∨ ((s.root == s.me) = false ∧ decide (0 ≤ s.root) = true ∧ (s.root != s.me) = true ∧ decide (s.root < r) = true) := by
      have hn : ¬ (0 ≤ r ∧ r < s.me ∧ if s.root = s.me then s.quiet = 0 else (s.root = -1 ∨ r ≤ s.root)) := fun e => by
        rw [(heed_iff s r).2 e] at hh
        cases hh
      by_cases e : s.root = s.me
      · left
        rw [if_pos e] at hn
        exact ⟨by simp [e], decide_eq_true (by omega)⟩
      · right
        rw [if_neg e] at hn
        exact ⟨by simp [e], decide_eq_true (by omega), by simp [e], decide_eq_true (by omega)⟩
    have HN := Lib.hid (HNo.out ht)
    clear ht h hi HNo hh
    rcases hcase with ⟨d2, d3⟩ | ⟨d2, d3, d4, d5⟩
    · go_enter Tryz.func36, Tryz.ntmps36
      go_wp2
      go_quiet (fail)
      go_wp2
      go_ret
      first | exact HN.out _ (below_drewN (Below.refl _ _) _) | exact HN.out _ (below_drewN (below_drewN (Below.refl _ _) _) _) | exact HN.out _ (below_drewN (below_drewN (below_drewN (Below.refl _ _) _) _) _)
    · go_enter Tryz.func36, Tryz.ntmps36
      go_wp2
      go_quiet (fail)
      go_wp2
      go_quiet (fail)
      go_wp2
      go_ret
      first | exact HN.out _ (below_drewN (Below.refl _ _) _) | exact HN.out _ (below_drewN (below_drewN (Below.refl _ _) _) _) | exact HN.out _ (below_drewN (below_drewN (below_drewN (Below.refl _ _) _) _) _)
  | true =>
    have hcase : ((s.root == s.me) = true ∧ decide (0 < s.quiet) = false ∧ decide (0 ≤ s.root) = true ∧ (s.root != s.me) = false) ∨ ((s.root == s.me) = false ∧ decide (0 ≤ s.root) = false) ∨ ((s.root == s.me) = false ∧ decide (0 ≤ s.root) = true ∧ (s.root != s.me) = true ∧ decide (s.root < r) = false) := by
      obtain ⟨_, _, hn⟩ := (heed_iff s r).1 hh
      by_cases e : s.root = s.me
      · left
        rw [if_pos e] at hn
        exact ⟨by simp [e], decide_eq_false (by omega), decide_eq_true (by omega), by simp [e]⟩
      · right
        rw [if_neg e] at hn
        by_cases e2 : s.root = -1
        · exact .inl ⟨by simp [e], decide_eq_false (by omega)⟩
        · exact .inr ⟨by simp [e], decide_eq_true (by omega), by simp [e], decide_eq_false (by omega)⟩
    obtain ⟨i, rfl⟩ : ∃ i : Nat, r = i := ⟨r.toNat, by omega⟩
    have hi64 : i < 64 := by omega
    have hi64' : (i : Int) < 64 := by omega
    obtain ⟨a1, p, a2, a3, a4⟩ := h.at hi64
    cases hf : s.f i with
    | none =>
      rw [hf] at a1
      have ht : takeB s i x q = true := by unfold takeB freshB; rw [hh, hf]; rfl
      have hne : (i : Int) ≠ s.root := fun e => by
        obtain ⟨p, hp⟩ := hi.knows (by omega) (by omega)
        rw [← e, hf] at hp
        cases hp
      have hv : (if movB s i x = true then 2 else 1) = (2 : Int) := by
        unfold movB
        rw [decide_eq_true (.inl hne)]
        rfl
      have d9 : (s.root != (i : Int)) = true := by
        rw [bne_iff_ne]
        exact fun e => hne e.symm
      have HT := Lib.hid (fun m => rhear_tail h hi64 ht (take_quiet hi ht) hv m)
      clear hh h hi HNo hf hv ht hne a2 a3 a4
      simp only [Option.isSome_none] at a1 HT
      rcases hcase with ⟨d2, d3, d4, d5⟩ | ⟨d2, d3⟩ | ⟨d2, d3, d4, d5⟩ <;>
      · go_enter Tryz.func36, Tryz.ntmps36
        go_wp2
        go_quiet (fail)
        revert nq
        intro n1
        go_wp2
        go_quiet (fail)
        revert nq
        intro n2
        go_wp2
        go_quiet (fail)
        revert nq
        intro n3
        go_upto_region 12 with fail
        obtain ⟨b0, y0, y1, y2, y3, y4, y5, ⟨v1, b1⟩, ⟨v2, b2⟩, b3, b4, b5, HF⟩ := HT.out (n1 + n2 + n3)
        clear HT
        go_wp2
        go_ret
        exact HF.out
    | some p' =>
      have hp := a4 p' hf
      subst hp
      obtain ⟨p1, p2⟩ := p
      obtain ⟨hp1, hp2⟩ := hi.marks i _ hf
      rw [hf] at a1
      simp only [Option.isSome_some] at a1 a2 a3
      have hfresh : freshB s i x q = newM x q p1 p2 := by unfold freshB; rw [hf]
      have hnew := fun W => rmnewer_any W x q p1 p2 hx hq hp1 hp2
      cases hnn : newM x q p1 p2 with
      | false =>
        have ht : takeB s i x q = false := by unfold takeB; rw [hh, hfresh, hnn]; rfl
        simp only [hnn] at hnew
        have HN := Lib.hid (HNo.out ht)
        clear ht h hi HNo hh hf hfresh hnn a4 hp1 hp2
        rcases hcase with ⟨d2, d3, d4, d5⟩ | ⟨d2, d3⟩ | ⟨d2, d3, d4, d5⟩ <;>
        · go_enter Tryz.func36, Tryz.ntmps36
          go_wp2
          go_quiet (fail)
          go_wp2
          go_quiet (fail)
          go_wp2
          go_quiet ((go_at_call 63; refine (hnew _).mono ?_; rintro e wx ⟨rfl, rfl⟩; exact ⟨rfl, _, rfl⟩))
          go_wp2
          go_ret
          first | exact HN.out _ (below_drewN (Below.refl _ _) _) | exact HN.out _ (below_drewN (below_drewN (Below.refl _ _) _) _) | exact HN.out _ (below_drewN (below_drewN (below_drewN (Below.refl _ _) _) _) _)
      | true =>
        have ht : takeB s i x q = true := by unfold takeB; rw [hh, hfresh, hnn]; rfl
        simp only [hnn] at hnew
        have hmov : ∃ v : Int, (if movB s i x = true then 2 else 1) = v ∧ (((s.root != (i : Int)) = true ∧ v = 2) ∨ ((s.root != (i : Int)) = false ∧ (p1 != x) = true ∧ v = 2) ∨ ((s.root != (i : Int)) = false ∧ (p1 != x) = false ∧ v = 1)) := by
          unfold movB
          rw [hf]
          simp only [Option.getD_some]
          by_cases hne : s.root = (i : Int)
          · by_cases hxx : p1 = x
            · simp [hne, hxx]
            · have hxx' : x ≠ p1 := fun e => hxx e.symm
              simp [hne, hxx, hxx']
          · have hne' : (i : Int) ≠ s.root := fun e => hne e.symm
            simp [hne, hne']
        obtain ⟨v, hv, hmov⟩ := hmov
        have HT := Lib.hid (fun m => rhear_tail h hi64 ht (take_quiet hi ht) hv m)
        clear hh h hi HNo hf hv ht a4 hfresh hnn hp1 hp2
        rcases hcase with ⟨d2, d3, d4, d5⟩ | ⟨d2, d3⟩ | ⟨d2, d3, d4, d5⟩ <;> rcases hmov with ⟨d8, rfl⟩ | ⟨d8, d9, rfl⟩ | ⟨d8, d9, rfl⟩ <;>
        · go_enter Tryz.func36, Tryz.ntmps36
          go_wp2
          go_quiet (fail)
          revert nq
          intro n1
          go_wp2
          go_quiet (fail)
          revert nq
          intro n2
          go_wp2
          go_quiet ((go_at_call 63; refine (hnew _).mono ?_; rintro e wx ⟨rfl, rfl⟩; exact ⟨rfl, _, rfl⟩))
          revert nq
          intro n3
          go_upto_region 12 with fail
          obtain ⟨b0, y0, y1, y2, y3, y4, y5, ⟨v1, b1⟩, ⟨v2, b2⟩, b3, b4, b5, HF⟩ := HT.out (n1 + n2 + n3)
          clear HT
          go_wp2
          go_ret
          exact HF.out
end Go.Proofs.YtgmeakcfiaopcaaGreat
