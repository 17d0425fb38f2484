/- Package leap: which leap may be the next one; the lines of start, of a leap, of end. -/
import Derived.Test.YtiglhmdiiajmhaaDoorLpB
namespace Go.Proofs.YtiglhmdiiajmhaaDoor
open Go.RowKit
set_option linter.unusedSimpArgs false
set_option linter.unusedVariables false

theorem takes_nil (st d : Int) : takesB st [] d = decide (st ≤ d) := rfl
theorem takes_snoc (st d : Int) (L : List (Int × Int)) (e : Int × Int) : takesB st (L ++ [e]) d = decide (e.1 < d) := by
  unfold takesB
  rw [List.getLast?_append]
  rfl
theorem takes_any (w : World) (B q : Nat) (T : TB) (d : Int) (h : Tl w B q T) (hn : T.lp.length ≤ 1000) :
    Calls Tryd.prog 37 #[.pointer (some ⟨q, 0, none⟩), .int .i64 d] w fun e w' => e = .returned (.bool (takesB T.st T.lp d)) ∧ ∃ n, w' = w.drewN n := by
  obtain ⟨hB, A, c, hH, hO⟩ := h
  have c0 := hH.cell 0
  have c3 := hH.cell 3
  obtain ⟨st, ah, en, lp⟩ := T
  dsimp only at c0 c3 hO hn ⊢
  have hpr := PRow.of_own hO
  clear hH
  rcases List.eq_nil_or_concat lp with rfl | ⟨M, e, hL⟩
  · rw [takes_nil]
    clear hO
    go_enter Tryd.func37, Tryd.ntmps37
    go_wp2
    go_ret
    exact ⟨rfl, 0, rfl⟩
  · rw [List.concat_eq_append] at hL
    obtain ⟨x, y⟩ := e
    have hlen : lp.length = M.length + 1 := by rw [hL]; simp
    obtain ⟨b, off, rfl, hb, d0, d1⟩ := hpr.at (i := M.length) (x := x) (y := y) (by rw [hL]; simp)
    rw [hL, takes_snoc]
    dsimp only
    have hle := hpr.cap_le
    obtain ⟨m, hm⟩ : ∃ m, M.length = m := ⟨_, rfl⟩
    rw [hm] at hlen d0 d1
    have hz : ¬ (lp.length : Int) = 0 := by omega
    have hz1 := beq_no hz
    have ew : IntKind.i64.wrap ((lp.length : Int) - 1) = (m : Int) := by rw [IntWalk.i64_in _ (by omega)]; omega
    have hlt : (m : Int) < (lp.length : Int) := by omega
    obtain ⟨N, hN⟩ : ∃ N, lp.length = N := ⟨_, rfl⟩
    simp only [hN] at *
    clear hO hpr hL hm hN hlen d1 hle hn
    go_enter Tryd.func37, Tryd.ntmps37
    go_upto_region 3 with (fail)
    go_quiet (fail)
    go_wp2
    go_ret
    exact ⟨rfl, _, rfl⟩

/-- Behind a line's reading. -/
def LinePost (w0 : World) (g q : Nat) (L : List ByteArray) (k : Nat) (ws : List ByteArray) (r : Except Int TB) (e : Ending) (w' : World) : Prop :=
  (∃ T', r = .ok T' ∧ e = .returned (.tuple #[]) ∧ RT w0 w' g q L k ws T') ∨ (∃ c, r = .error c ∧ e = .panicked (faultV (k : Int) c) ∧ Below w0.heap.size w0 w')
theorem startR_bad {T : TB} {ws : List ByteArray} (h : ¬ (ws.length = 3 ∧ ws.head? = some startB)) : startR T ws = .error 3 := by
  unfold startR
  split
  · rw [if_neg]
    rintro rfl
    exact h ⟨rfl, rfl⟩
  · rfl
theorem three {ws : List ByteArray} {f : ByteArray} (h : ws.length = 3 ∧ ws.head? = some f) : ∃ b c, ws = [f, b, c] := by
  match ws, h with
  | [x, b, c], h =>
    have : x = f := by simpa using h.2
    exact ⟨b, c, by rw [this]⟩
theorem RT.tbl {w0 w : World} {g q : Nat} {L ws : List ByteArray} {k : Nat} {T : TB} (h : RT w0 w g q L k ws T) : ∃ A c, Holds w q 54 #[.int .i64 T.st, .int .i64 T.ah, .int .i64 T.en, .slice A T.lp.length c] := by
  obtain ⟨_, A, c, h1, _⟩ := h.tl
  exact ⟨A, c, h1⟩
/-- A number of the table is stored. -/
theorem RT.put {w0 w : World} {g q : Nat} {L ws : List ByteArray} {k : Nat} {T : TB} (h : RT w0 w g q L k ws T) (i : Nat) (v : Int) (T' : TB) (h1 : T'.st = if i = 0 then v else T.st) (h2 : T'.ah = if i = 1 then v else T.ah) (h3 : T'.en = if i = 2 then v else T.en) (h4 : T'.lp = T.lp) (hi : i < 3) :
    RT w0 (w.setCell ⟨q, i, none⟩ (.int .i64 v)) g q L k ws T' := by
  obtain ⟨hr, ⟨hB, A, c, hH, hO⟩, hb⟩ := h
  have hc := Chg.set (S := fun k => k = q) w q i (.int .i64 v) rfl
  refine ⟨?_, ⟨hB, A, c, ?_, ?_⟩, hb.setCell hB _⟩
  · obtain ⟨hB', hl, hf, hs, A', c', A2, c2, k1, k2, k3⟩ := hr
    exact ⟨hB', hl, hf, hs, A', c', A2, c2, k1.chg hc (fun e => k1.apart hH (by decide) e), own_chg k2 hc (fun x hx e => hH.own_apart k2 (by decide) (by rw [← e]; exact hx)), own_chg k3 hc (fun x hx e => hH.own_apart k3 (by decide) (by rw [← e]; exact hx))⟩
  · have := hH.put i (.int .i64 v)
    rw [h1, h2, h3, h4]
    have hi3 : i = 0 ∨ i = 1 ∨ i = 2 := by omega
    rcases hi3 with rfl | rfl | rfl <;> exact this
  · rw [h4]
    exact own_chg hO hc (fun x hx e => hH.own_apart hO (by decide) (by rw [← e]; exact hx))
theorem Wds.two {w : World} {v : Value} {b c : ByteArray} (h : Wds w v [b, c]) : ∃ bb cc, v = .slice (some ⟨bb, 1, none⟩) 2 cc ∧ 2 ≤ cc ∧ w.cell? ⟨bb, 1, none⟩ = some (.string b) ∧ w.cell? ⟨bb, 2, none⟩ = some (.string c) := by
  obtain ⟨bb, n, cc, e, hn, hc, _, hh⟩ := h.lies
  have hn2 : n = 2 := hn
  subst hn2
  exact ⟨bb, cc, e, hc, hh 0 b rfl, hh 1 c rfl⟩
theorem Wds.one {w : World} {v : Value} {b : ByteArray} (h : Wds w v [b]) : ∃ bb cc, v = .slice (some ⟨bb, 1, none⟩) 1 cc ∧ 1 ≤ cc ∧ w.cell? ⟨bb, 1, none⟩ = some (.string b) := by
  obtain ⟨bb, n, cc, e, hn, hc, _, hh⟩ := h.lies
  have hn2 : n = 1 := hn
  subst hn2
  exact ⟨bb, cc, e, hc, hh 0 b rfl⟩
/-- Two words, the reader and the table, as they lie. -/
def WR (w0 : World) (bb g q : Nat) (b c : ByteArray) (L : List ByteArray) (k : Nat) (ws : List ByteArray) (T : TB) (w : World) : Prop :=
  w.cell? ⟨bb, 1, none⟩ = some (.string b) ∧ w.cell? ⟨bb, 2, none⟩ = some (.string c) ∧ RT w0 w g q L k ws T
theorem WR.below {w0 w w' : World} {bb g q : Nat} {b c : ByteArray} {L ws : List ByteArray} {k : Nat} {T : TB} (h : WR w0 bb g q b c L k ws T w) (hb : Below w.heap.size w w') : WR w0 bb g q b c L k ws T w' :=
  ⟨(hb.cell (p := ⟨bb, 1, none⟩) (block_lt h.1)).trans h.1, (hb.cell (p := ⟨bb, 2, none⟩) (block_lt h.2.1)).trans h.2.1, h.2.2.below hb⟩
theorem WR.any {w0 w : World} {bb g q : Nat} {b c : ByteArray} {L ws : List ByteArray} {k : Nat} {T : TB} (h : WR w0 bb g q b c L k ws T w) : w.cell? ⟨bb, 1, none⟩ = some (.string b) ∧ w.cell? ⟨bb, 2, none⟩ = some (.string c) ∧ ∃ T, RT w0 w g q L k ws T := ⟨h.1, h.2.1, T, h.2.2⟩
/-- A number of the table is stored. -/
theorem WR.put {w0 w : World} {bb g q : Nat} {b c : ByteArray} {L ws : List ByteArray} {k : Nat} {T : TB} (h : WR w0 bb g q b c L k ws T w) (i : Nat) (v : Int) (T' : TB) (h1 : T'.st = if i = 0 then v else T.st) (h2 : T'.ah = if i = 1 then v else T.ah) (h3 : T'.en = if i = 2 then v else T.en) (h4 : T'.lp = T.lp) (hi : i < 3) :
    WR w0 bb g q b c L k ws T' (w.setCell ⟨q, i, none⟩ (.int .i64 v)) := by
  obtain ⟨A, cc, hT⟩ := h.2.2.tbl
  have hne : bb ≠ q := by
    rintro rfl
    have := h.1
    rw [hT.cell] at this
    cases this
  have hx : ∀ o, (w.setCell ⟨q, i, none⟩ (.int .i64 v)).cell? ⟨bb, o, none⟩ = w.cell? ⟨bb, o, none⟩ := fun o => World.cell?_of_block (w := w) (Below.heap_setCell w ⟨q, i, none⟩ _ bb hne)
  exact ⟨(hx 1).trans h.1, (hx 2).trans h.2.1, h.2.2.put i v T' h1 h2 h3 h4 hi⟩
theorem startR_three (T : TB) (b c : ByteArray) : startR T [startB, b, c] = match dayOf b, smallOf c with
      | some d, some n => .ok ⟨d, n, T.en, T.lp⟩
      | _, _ => .error 3 := by
  unfold startR
  exact if_pos rfl
set_option maxRecDepth 100000 in
set_option maxHeartbeats 2000000 in
theorem start_any (w0 w : World) (g q : Nat) (L ws : List ByteArray) (k : Nat) (T : TB) (h : RT w0 w g q L k ws T) (hws : ∀ s ∈ ws, s.size ≤ 16384) :
    Calls Tryd.prog 48 #[.pointer (some ⟨g, 0, none⟩), .pointer (some ⟨q, 0, none⟩)] w (LinePost w0 g q L k ws (startR T ws)) := by
  by_cases hb : ws.length = 3 ∧ ws.head? = some startB
  · obtain ⟨b, c, rfl⟩ := three hb
    have hbs := hws b (by simp)
    have hy := behind_yes w w0.heap.size g k L startB [b, c] h.rd (by simp) (by simp)
    unfold startB at hy
    have hy2 : Calls Tryd.prog 69 #[.pointer (some ⟨g, 0, none⟩), .string ⟨#[115, 116, 97, 114, 116]⟩, .int .i64 2] w fun e w' => ∃ v, e = .returned v ∧ w' = w ∧ Wds w v [b, c] := hy
    have HR := Lib.hid h
    rw [startR_three]
    clear hy hb hws h
    obtain ⟨ws, hwse⟩ : ∃ ws, [startB, b, c] = ws := ⟨_, rfl⟩
    simp only [hwse] at HR ⊢
    clear hwse
    cases hdb : dayOf b with
    | none =>
      have HDN := Lib.hid (fun W hk => day_no W g (k : Int) b hdb (by unfold maxLen; omega) hk)
      go_enter Tryd.func48, Tryd.ntmps48
      go_upto_region 1 with (go_at_call 69; refine hy2.mono ?_; rintro e w1 ⟨v, rfl, hw1, hv⟩; subst hw1; obtain ⟨bb, cc, rfl, hcc, q0, q1⟩ := hv.two; have HV := Lib.hid (show WR w0 bb g q b c L k ws T w1 from ⟨q0, q1, HR.out⟩); clear hv q0 q1)
      clear hy2 hdb
      refine region_turns (fun (w' : World) => w'.cell? ⟨bb, 1, none⟩ = some (.string b) ∧ w'.cell? ⟨bb, 2, none⟩ = some (.string c) ∧ ∃ U, RT w0 w' g q L k ws U) (fun j => decide (18 ≤ j)) (by kernel_rfl) ((HV.out.below (Below.refl _ _).drew).any) (fun hS => ?_)
      refine Turns.take hS 0 _ rfl (by kernel_rfl) (by kernel_rfl) (by kernel_rfl) (by kernel_rfl) (fun _ _ _ h => h) (by rfl) (fun w' hS' => by (try dsimp only at hS'); go_split_ands; go_simp; (try with_reducible rfl)) ?_
      simp only [Act.put, List.getElem_toArray, List.getElem_cons_succ, List.getElem_cons_zero, List.setIfInBounds_toArray, List.set_cons_zero, List.set_cons_succ]
      refine Turns.take hS 1 _ rfl (by kernel_rfl) (by kernel_rfl) (by kernel_rfl) (by kernel_rfl) (fun _ _ _ h => h) (by rfl) (fun w' hS' => by (try dsimp only at hS'); go_split_ands; go_simp; (try with_reducible rfl)) ?_
      simp only [Act.put, List.getElem_toArray, List.getElem_cons_succ, List.getElem_cons_zero, List.setIfInBounds_toArray, List.set_cons_zero, List.set_cons_succ]
      refine Turns.take hS 2 _ rfl (by kernel_rfl) (by kernel_rfl) (by kernel_rfl) (by kernel_rfl) (fun _ _ _ h => h) (by rfl) (fun w' hS' => by (try dsimp only at hS'); go_split_ands; go_simp; (try with_reducible rfl)) ?_
      simp only [Act.put, List.getElem_toArray, List.getElem_cons_succ, List.getElem_cons_zero, List.setIfInBounds_toArray, List.set_cons_zero, List.set_cons_succ]
      refine Turns.take hS 3 _ rfl (by kernel_rfl) (by kernel_rfl) (by kernel_rfl) (by kernel_rfl) (fun _ _ _ h => h) (by rfl) (fun w' hS' => by (try dsimp only at hS'); go_split_ands; go_simp; (try with_reducible rfl)) ?_
      simp only [Act.put, List.getElem_toArray, List.getElem_cons_succ, List.getElem_cons_zero, List.setIfInBounds_toArray, List.set_cons_zero, List.set_cons_succ]
      refine Turns.take hS 4 _ rfl (by kernel_rfl) (by kernel_rfl) (by kernel_rfl) (by kernel_rfl) (fun _ _ _ h => h) (by rfl) (fun w' hS' => by (try dsimp only at hS'); go_split_ands; go_simp; (try with_reducible rfl)) ?_
      simp only [Act.put, List.getElem_toArray, List.getElem_cons_succ, List.getElem_cons_zero, List.setIfInBounds_toArray, List.set_cons_zero, List.set_cons_succ]
      refine Turns.take hS 5 _ rfl (by kernel_rfl) (by kernel_rfl) (by kernel_rfl) (by kernel_rfl) (fun _ _ _ h => h) (by rfl) (fun w' hS' => by (try dsimp only at hS'); go_split_ands; go_simp; (try with_reducible rfl)) ?_
      simp only [Act.put, List.getElem_toArray, List.getElem_cons_succ, List.getElem_cons_zero, List.setIfInBounds_toArray, List.set_cons_zero, List.set_cons_succ]
      refine Turns.take hS 7 _ rfl (by kernel_rfl) (by kernel_rfl) (by kernel_rfl) (by kernel_rfl) (fun _ _ _ h => h) (by rfl) (fun w' hS' => by (try dsimp only at hS'); go_split_ands; go_simp; (try with_reducible rfl)) ?_
      simp only [Act.put, List.getElem_toArray, List.getElem_cons_succ, List.getElem_cons_zero, List.setIfInBounds_toArray, List.set_cons_zero, List.set_cons_succ]
      refine Turns.take hS 8 _ rfl (by kernel_rfl) (by kernel_rfl) (by kernel_rfl) (by kernel_rfl) (fun _ _ _ h => h) (by rfl) (fun w' hS' => by (try dsimp only at hS'); go_split_ands; go_simp; (try with_reducible rfl)) ?_
      simp only [Act.put, List.getElem_toArray, List.getElem_cons_succ, List.getElem_cons_zero, List.setIfInBounds_toArray, List.set_cons_zero, List.set_cons_succ]
      refine Turns.take hS 9 _ rfl (by kernel_rfl) (by kernel_rfl) (by kernel_rfl) (by kernel_rfl) (fun _ _ _ h => h) (by rfl) (fun w' hS' => by (try dsimp only at hS'); go_split_ands; go_simp; (try with_reducible rfl)) ?_
      simp only [Act.put, List.getElem_toArray, List.getElem_cons_succ, List.getElem_cons_zero, List.setIfInBounds_toArray, List.set_cons_zero, List.set_cons_succ]
      refine Turns.take hS 10 _ rfl (by kernel_rfl) (by kernel_rfl) (by kernel_rfl) (by kernel_rfl) (fun _ _ _ h => h) (by rfl) (fun w' hS' => by (try dsimp only at hS'); go_split_ands; go_simp; (try with_reducible rfl)) ?_
      simp only [Act.put, List.getElem_toArray, List.getElem_cons_succ, List.getElem_cons_zero, List.setIfInBounds_toArray, List.set_cons_zero, List.set_cons_succ]
      refine Turns.next 6 rfl (by kernel_rfl) (by rfl) (fun K hK => ?_)
      go_simp
      go_at_call 70
      refine (HDN.out _ (HV.out.below (Below.refl _ _).drew).2.2.one).mono ?_
      rintro e w2 ⟨rfl, hb2⟩
      exact ⟨rfl, .inr ⟨3, rfl, rfl, ((HV.out.below (Below.refl _ _).drew).2.2.below hb2).old⟩⟩
    | some d =>
      have HDY := Lib.hid (fun W => day_yes W g b d hdb)
      cases hsc : smallOf c with
      | none =>
        go_enter Tryd.func48, Tryd.ntmps48
        go_upto_region 1 with (go_at_call 69; refine hy2.mono ?_; rintro e w1 ⟨v, rfl, hw1, hv⟩; subst hw1; obtain ⟨bb, cc, rfl, hcc, q0, q1⟩ := hv.two; have HV := Lib.hid (show WR w0 bb g q b c L k ws T w1 from ⟨q0, q1, HR.out⟩); clear hv q0 q1)
        have HSC := Lib.hid hsc
        clear hy2 hdb hsc
        refine region_turns (fun (w' : World) => w'.cell? ⟨bb, 1, none⟩ = some (.string b) ∧ w'.cell? ⟨bb, 2, none⟩ = some (.string c) ∧ ∃ U, RT w0 w' g q L k ws U) (fun j => decide (18 ≤ j)) (by kernel_rfl) ((HV.out.below (Below.refl _ _).drew).any) (fun hS => ?_)
        refine Turns.take hS 0 _ rfl (by kernel_rfl) (by kernel_rfl) (by kernel_rfl) (by kernel_rfl) (fun _ _ _ h => h) (by rfl) (fun w' hS' => by (try dsimp only at hS'); go_split_ands; go_simp; (try with_reducible rfl)) ?_
        simp only [Act.put, List.getElem_toArray, List.getElem_cons_succ, List.getElem_cons_zero, List.setIfInBounds_toArray, List.set_cons_zero, List.set_cons_succ]
        refine Turns.take hS 1 _ rfl (by kernel_rfl) (by kernel_rfl) (by kernel_rfl) (by kernel_rfl) (fun _ _ _ h => h) (by rfl) (fun w' hS' => by (try dsimp only at hS'); go_split_ands; go_simp; (try with_reducible rfl)) ?_
        simp only [Act.put, List.getElem_toArray, List.getElem_cons_succ, List.getElem_cons_zero, List.setIfInBounds_toArray, List.set_cons_zero, List.set_cons_succ]
        refine Turns.take hS 2 _ rfl (by kernel_rfl) (by kernel_rfl) (by kernel_rfl) (by kernel_rfl) (fun _ _ _ h => h) (by rfl) (fun w' hS' => by (try dsimp only at hS'); go_split_ands; go_simp; (try with_reducible rfl)) ?_
        simp only [Act.put, List.getElem_toArray, List.getElem_cons_succ, List.getElem_cons_zero, List.setIfInBounds_toArray, List.set_cons_zero, List.set_cons_succ]
        refine Turns.take hS 3 _ rfl (by kernel_rfl) (by kernel_rfl) (by kernel_rfl) (by kernel_rfl) (fun _ _ _ h => h) (by rfl) (fun w' hS' => by (try dsimp only at hS'); go_split_ands; go_simp; (try with_reducible rfl)) ?_
        simp only [Act.put, List.getElem_toArray, List.getElem_cons_succ, List.getElem_cons_zero, List.setIfInBounds_toArray, List.set_cons_zero, List.set_cons_succ]
        refine Turns.take hS 4 _ rfl (by kernel_rfl) (by kernel_rfl) (by kernel_rfl) (by kernel_rfl) (fun _ _ _ h => h) (by rfl) (fun w' hS' => by (try dsimp only at hS'); go_split_ands; go_simp; (try with_reducible rfl)) ?_
        simp only [Act.put, List.getElem_toArray, List.getElem_cons_succ, List.getElem_cons_zero, List.setIfInBounds_toArray, List.set_cons_zero, List.set_cons_succ]
        refine Turns.take hS 5 _ rfl (by kernel_rfl) (by kernel_rfl) (by kernel_rfl) (by kernel_rfl) (fun _ _ _ h => h) (by rfl) (fun w' hS' => by (try dsimp only at hS'); go_split_ands; go_simp; (try with_reducible rfl)) ?_
        simp only [Act.put, List.getElem_toArray, List.getElem_cons_succ, List.getElem_cons_zero, List.setIfInBounds_toArray, List.set_cons_zero, List.set_cons_succ]
        refine Turns.take hS 7 _ rfl (by kernel_rfl) (by kernel_rfl) (by kernel_rfl) (by kernel_rfl) (fun _ _ _ h => h) (by rfl) (fun w' hS' => by (try dsimp only at hS'); go_split_ands; go_simp; (try with_reducible rfl)) ?_
        simp only [Act.put, List.getElem_toArray, List.getElem_cons_succ, List.getElem_cons_zero, List.setIfInBounds_toArray, List.set_cons_zero, List.set_cons_succ]
        refine Turns.take hS 8 _ rfl (by kernel_rfl) (by kernel_rfl) (by kernel_rfl) (by kernel_rfl) (fun _ _ _ h => h) (by rfl) (fun w' hS' => by (try dsimp only at hS'); go_split_ands; go_simp; (try with_reducible rfl)) ?_
        simp only [Act.put, List.getElem_toArray, List.getElem_cons_succ, List.getElem_cons_zero, List.setIfInBounds_toArray, List.set_cons_zero, List.set_cons_succ]
        refine Turns.take hS 9 _ rfl (by kernel_rfl) (by kernel_rfl) (by kernel_rfl) (by kernel_rfl) (fun _ _ _ h => h) (by rfl) (fun w' hS' => by (try dsimp only at hS'); go_split_ands; go_simp; (try with_reducible rfl)) ?_
        simp only [Act.put, List.getElem_toArray, List.getElem_cons_succ, List.getElem_cons_zero, List.setIfInBounds_toArray, List.set_cons_zero, List.set_cons_succ]
        refine Turns.take hS 10 _ rfl (by kernel_rfl) (by kernel_rfl) (by kernel_rfl) (by kernel_rfl) (fun _ _ _ h => h) (by rfl) (fun w' hS' => by (try dsimp only at hS'); go_split_ands; go_simp; (try with_reducible rfl)) ?_
        simp only [Act.put, List.getElem_toArray, List.getElem_cons_succ, List.getElem_cons_zero, List.setIfInBounds_toArray, List.set_cons_zero, List.set_cons_succ]
        refine Turns.next 6 rfl (by kernel_rfl) (by rfl) (fun K hK => ?_)
        go_simp
        go_at_call 70
        refine (HDY.out _).mono ?_
        rintro e w2 ⟨rfl, hb2⟩
        have HE := Lib.hid ((HV.out.below (Below.refl _ _).drew).below hb2)
        refine hK.out _ _ (show (fun (w' : World) => w'.cell? ⟨bb, 1, none⟩ = some (.string b) ∧ w'.cell? ⟨bb, 2, none⟩ = some (.string c) ∧ ∃ U, RT w0 w' g q L k ws U) _ from HE.out.any) ?_
        clear hK K hS
        have hS := (show (fun (w' : World) => w'.cell? ⟨bb, 1, none⟩ = some (.string b) ∧ w'.cell? ⟨bb, 2, none⟩ = some (.string c) ∧ ∃ U, RT w0 w' g q L k ws U) _ from HE.out.any)
        refine Turns.next 11 rfl (by kernel_rfl) (by rfl) (fun K hK => ?_)
        go_simp
        go_at_call 71
        refine (sec_any _ g (k : Int) c HE.out.2.2.one).mono ?_
        rintro e w3 ⟨⟨n, hn, _⟩ | ⟨_, rfl⟩, hb3⟩
        · rw [HSC.out] at hn
          cases hn
        exact ⟨rfl, .inr ⟨3, rfl, rfl, (HE.out.2.2.below hb3).old⟩⟩
      | some n =>
        go_enter Tryd.func48, Tryd.ntmps48
        go_upto_region 1 with (go_at_call 69; refine hy2.mono ?_; rintro e w1 ⟨v, rfl, hw1, hv⟩; subst hw1; obtain ⟨bb, cc, rfl, hcc, q0, q1⟩ := hv.two; have HV := Lib.hid (show WR w0 bb g q b c L k ws T w1 from ⟨q0, q1, HR.out⟩); clear hv q0 q1)
        have HSC := Lib.hid hsc
        clear hy2 hdb hsc
        refine region_turns (fun (w' : World) => w'.cell? ⟨bb, 1, none⟩ = some (.string b) ∧ w'.cell? ⟨bb, 2, none⟩ = some (.string c) ∧ ∃ U, RT w0 w' g q L k ws U) (fun j => decide (18 ≤ j)) (by kernel_rfl) ((HV.out.below (Below.refl _ _).drew).any) (fun hS => ?_)
        refine Turns.take hS 0 _ rfl (by kernel_rfl) (by kernel_rfl) (by kernel_rfl) (by kernel_rfl) (fun _ _ _ h => h) (by rfl) (fun w' hS' => by (try dsimp only at hS'); go_split_ands; go_simp; (try with_reducible rfl)) ?_
        simp only [Act.put, List.getElem_toArray, List.getElem_cons_succ, List.getElem_cons_zero, List.setIfInBounds_toArray, List.set_cons_zero, List.set_cons_succ]
        refine Turns.take hS 1 _ rfl (by kernel_rfl) (by kernel_rfl) (by kernel_rfl) (by kernel_rfl) (fun _ _ _ h => h) (by rfl) (fun w' hS' => by (try dsimp only at hS'); go_split_ands; go_simp; (try with_reducible rfl)) ?_
        simp only [Act.put, List.getElem_toArray, List.getElem_cons_succ, List.getElem_cons_zero, List.setIfInBounds_toArray, List.set_cons_zero, List.set_cons_succ]
        refine Turns.take hS 2 _ rfl (by kernel_rfl) (by kernel_rfl) (by kernel_rfl) (by kernel_rfl) (fun _ _ _ h => h) (by rfl) (fun w' hS' => by (try dsimp only at hS'); go_split_ands; go_simp; (try with_reducible rfl)) ?_
        simp only [Act.put, List.getElem_toArray, List.getElem_cons_succ, List.getElem_cons_zero, List.setIfInBounds_toArray, List.set_cons_zero, List.set_cons_succ]
        refine Turns.take hS 3 _ rfl (by kernel_rfl) (by kernel_rfl) (by kernel_rfl) (by kernel_rfl) (fun _ _ _ h => h) (by rfl) (fun w' hS' => by (try dsimp only at hS'); go_split_ands; go_simp; (try with_reducible rfl)) ?_
        simp only [Act.put, List.getElem_toArray, List.getElem_cons_succ, List.getElem_cons_zero, List.setIfInBounds_toArray, List.set_cons_zero, List.set_cons_succ]
        refine Turns.take hS 4 _ rfl (by kernel_rfl) (by kernel_rfl) (by kernel_rfl) (by kernel_rfl) (fun _ _ _ h => h) (by rfl) (fun w' hS' => by (try dsimp only at hS'); go_split_ands; go_simp; (try with_reducible rfl)) ?_
        simp only [Act.put, List.getElem_toArray, List.getElem_cons_succ, List.getElem_cons_zero, List.setIfInBounds_toArray, List.set_cons_zero, List.set_cons_succ]
        refine Turns.take hS 5 _ rfl (by kernel_rfl) (by kernel_rfl) (by kernel_rfl) (by kernel_rfl) (fun _ _ _ h => h) (by rfl) (fun w' hS' => by (try dsimp only at hS'); go_split_ands; go_simp; (try with_reducible rfl)) ?_
        simp only [Act.put, List.getElem_toArray, List.getElem_cons_succ, List.getElem_cons_zero, List.setIfInBounds_toArray, List.set_cons_zero, List.set_cons_succ]
        refine Turns.take hS 7 _ rfl (by kernel_rfl) (by kernel_rfl) (by kernel_rfl) (by kernel_rfl) (fun _ _ _ h => h) (by rfl) (fun w' hS' => by (try dsimp only at hS'); go_split_ands; go_simp; (try with_reducible rfl)) ?_
        simp only [Act.put, List.getElem_toArray, List.getElem_cons_succ, List.getElem_cons_zero, List.setIfInBounds_toArray, List.set_cons_zero, List.set_cons_succ]
        refine Turns.take hS 8 _ rfl (by kernel_rfl) (by kernel_rfl) (by kernel_rfl) (by kernel_rfl) (fun _ _ _ h => h) (by rfl) (fun w' hS' => by (try dsimp only at hS'); go_split_ands; go_simp; (try with_reducible rfl)) ?_
        simp only [Act.put, List.getElem_toArray, List.getElem_cons_succ, List.getElem_cons_zero, List.setIfInBounds_toArray, List.set_cons_zero, List.set_cons_succ]
        refine Turns.take hS 9 _ rfl (by kernel_rfl) (by kernel_rfl) (by kernel_rfl) (by kernel_rfl) (fun _ _ _ h => h) (by rfl) (fun w' hS' => by (try dsimp only at hS'); go_split_ands; go_simp; (try with_reducible rfl)) ?_
        simp only [Act.put, List.getElem_toArray, List.getElem_cons_succ, List.getElem_cons_zero, List.setIfInBounds_toArray, List.set_cons_zero, List.set_cons_succ]
        refine Turns.take hS 10 _ rfl (by kernel_rfl) (by kernel_rfl) (by kernel_rfl) (by kernel_rfl) (fun _ _ _ h => h) (by rfl) (fun w' hS' => by (try dsimp only at hS'); go_split_ands; go_simp; (try with_reducible rfl)) ?_
        simp only [Act.put, List.getElem_toArray, List.getElem_cons_succ, List.getElem_cons_zero, List.setIfInBounds_toArray, List.set_cons_zero, List.set_cons_succ]
        refine Turns.next 6 rfl (by kernel_rfl) (by rfl) (fun K hK => ?_)
        go_simp
        go_at_call 70
        refine (HDY.out _).mono ?_
        rintro e w2 ⟨rfl, hb2⟩
        have HE := Lib.hid ((HV.out.below (Below.refl _ _).drew).below hb2)
        refine hK.out _ _ (show (fun (w' : World) => w'.cell? ⟨bb, 1, none⟩ = some (.string b) ∧ w'.cell? ⟨bb, 2, none⟩ = some (.string c) ∧ ∃ U, RT w0 w' g q L k ws U) _ from HE.out.any) ?_
        clear hK K hS
        have hS := (show (fun (w' : World) => w'.cell? ⟨bb, 1, none⟩ = some (.string b) ∧ w'.cell? ⟨bb, 2, none⟩ = some (.string c) ∧ ∃ U, RT w0 w' g q L k ws U) _ from HE.out.any)
        refine Turns.next 11 rfl (by kernel_rfl) (by rfl) (fun K hK => ?_)
        go_simp
        go_at_call 71
        refine (sec_any _ g (k : Int) c HE.out.2.2.one).mono ?_
        rintro e w3 ⟨⟨n', hn, rfl⟩ | ⟨hn, _⟩, hb3⟩
        case inr => rw [HSC.out] at hn; cases hn
        rw [HSC.out] at hn
        obtain rfl : n = n' := Option.some.inj hn
        replace HE := Lib.hid (HE.out.below hb3)
        refine hK.out _ _ (show (fun (w' : World) => w'.cell? ⟨bb, 1, none⟩ = some (.string b) ∧ w'.cell? ⟨bb, 2, none⟩ = some (.string c) ∧ ∃ U, RT w0 w' g q L k ws U) _ from HE.out.any) ?_
        clear hK K hS
        have hS := (show (fun (w' : World) => w'.cell? ⟨bb, 1, none⟩ = some (.string b) ∧ w'.cell? ⟨bb, 2, none⟩ = some (.string c) ∧ ∃ U, RT w0 w' g q L k ws U) _ from HE.out.any)
        refine Turns.take hS 12 _ rfl (by kernel_rfl) (by kernel_rfl) (by kernel_rfl) (by kernel_rfl) (fun _ _ _ h => h) (by rfl) (fun w' hS' => by (try dsimp only at hS'); go_split_ands; go_simp; (try with_reducible rfl)) ?_
        simp only [Act.put, List.getElem_toArray, List.getElem_cons_succ, List.getElem_cons_zero, List.setIfInBounds_toArray, List.set_cons_zero, List.set_cons_succ]
        refine Turns.take hS 13 _ rfl (by kernel_rfl) (by kernel_rfl) (by kernel_rfl) (by kernel_rfl) (fun _ _ _ h => h) (by rfl) (fun w' hS' => by (try dsimp only at hS'); go_split_ands; go_simp; (try with_reducible rfl)) ?_
        simp only [Act.put, List.getElem_toArray, List.getElem_cons_succ, List.getElem_cons_zero, List.setIfInBounds_toArray, List.set_cons_zero, List.set_cons_succ]
        refine Turns.next 14 rfl (by kernel_rfl) (by rfl) (fun K hK => ?_)
        obtain ⟨At, ct, hT⟩ := HE.out.2.2.tbl
        have t0 := hT.cell 0
        have g0 := hT.soft 0
        replace HE := Lib.hid (HE.out.put 0 d ⟨d, T.ah, T.en, T.lp⟩ rfl rfl rfl rfl (by decide))
        go_simp
        clear t0 g0 hT
        refine hK.out _ _ (show (fun (w' : World) => w'.cell? ⟨bb, 1, none⟩ = some (.string b) ∧ w'.cell? ⟨bb, 2, none⟩ = some (.string c) ∧ ∃ U, RT w0 w' g q L k ws U) _ from HE.out.any) ?_
        clear hK K hS
        have hS := (show (fun (w' : World) => w'.cell? ⟨bb, 1, none⟩ = some (.string b) ∧ w'.cell? ⟨bb, 2, none⟩ = some (.string c) ∧ ∃ U, RT w0 w' g q L k ws U) _ from HE.out.any)
        refine Turns.take hS 15 _ rfl (by kernel_rfl) (by kernel_rfl) (by kernel_rfl) (by kernel_rfl) (fun _ _ _ h => h) (by rfl) (fun w' hS' => by (try dsimp only at hS'); go_split_ands; go_simp; (try with_reducible rfl)) ?_
        simp only [Act.put, List.getElem_toArray, List.getElem_cons_succ, List.getElem_cons_zero, List.setIfInBounds_toArray, List.set_cons_zero, List.set_cons_succ]
        refine Turns.take hS 16 _ rfl (by kernel_rfl) (by kernel_rfl) (by kernel_rfl) (by kernel_rfl) (fun _ _ _ h => h) (by rfl) (fun w' hS' => by (try dsimp only at hS'); go_split_ands; go_simp; (try with_reducible rfl)) ?_
        simp only [Act.put, List.getElem_toArray, List.getElem_cons_succ, List.getElem_cons_zero, List.setIfInBounds_toArray, List.set_cons_zero, List.set_cons_succ]
        refine Turns.next 17 rfl (by kernel_rfl) (by rfl) (fun K hK => ?_)
        obtain ⟨At, ct, hT⟩ := HE.out.2.2.tbl
        have t0 := hT.cell 1
        have g0 := hT.soft 1
        replace HE := Lib.hid (HE.out.put 1 n ⟨d, n, T.en, T.lp⟩ rfl rfl rfl rfl (by decide))
        go_simp
        clear t0 g0 hT
        refine hK.out _ _ (show (fun (w' : World) => w'.cell? ⟨bb, 1, none⟩ = some (.string b) ∧ w'.cell? ⟨bb, 2, none⟩ = some (.string c) ∧ ∃ U, RT w0 w' g q L k ws U) _ from HE.out.any) ?_
        clear hK K hS
        have hS := (show (fun (w' : World) => w'.cell? ⟨bb, 1, none⟩ = some (.string b) ∧ w'.cell? ⟨bb, 2, none⟩ = some (.string c) ∧ ∃ U, RT w0 w' g q L k ws U) _ from HE.out.any)
        refine Turns.rest (late_done (by kernel_rfl)) ?_
        refine any_tail 18 (by rfl) (by kernel_rfl) ?_
        simp only [List.drop_succ_cons, List.drop_zero]
        clear hS
        have HY := Lib.hid HE.out.2.2
        go_wp2
        go_end0
        exact .inl ⟨_, rfl, rfl, HY.out⟩
  · rw [startR_bad hb]
    have hn := behind_no w w0.heap.size g k L ws startB 2 h.rd (by decide) hb
    unfold startB at hn
    have hn2 : Calls Tryd.prog 69 #[.pointer (some ⟨g, 0, none⟩), .string ⟨#[115, 116, 97, 114, 116]⟩, .int .i64 2] w fun e w' => e = .panicked (faultV (k : Int) 3) ∧ w' = w := hn
    have HO := Lib.hid h.old
    clear hn hb
    go_enter Tryd.func48, Tryd.ntmps48
    go_wp2_with (go_at_call 69; refine hn2.mono ?_; rintro e w1 ⟨rfl, hw1⟩; subst hw1)
    exact ⟨rfl, .inr ⟨3, rfl, rfl, HO.out⟩⟩
end Go.Proofs.YtiglhmdiiajmhaaDoor
