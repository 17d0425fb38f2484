/- Package leap: the line of a leap. -/
import Derived.Test.YtiglhmdiiajmhaaDoorLpC
import Derived.Lib.SlFresh
namespace Go.Proofs.YtiglhmdiiajmhaaDoor
open Go.RowKit
set_option linter.unusedSimpArgs false
set_option linter.unusedVariables false

theorem leap_info : (Tryd.prog.info? 51).map (fun i => (i.zero, i.size, i.bytes)) = some (some (.agg #[.int .i64 0, .int .i64 0]), 2, 16) := by kernel_rfl
/-- One more leap: the row's append, and the store of the slice. -/
theorem Tl.push {w : World} {B q : Nat} {T : TB} (h : Tl w B q T) (hn : T.lp.length ≤ 1000) (hB : B ≤ w.heap.size) {b : Nat} {te : TypeId} {x y : Int} (hy : Holds w b te #[.int .i64 x, .int .i64 y]) :
    ∃ A c, Holds w q 54 #[.int .i64 T.st, .int .i64 T.ah, .int .i64 T.en, .slice A T.lp.length c] ∧ ∃ A' c' w2, (Builtin.append_ #[48, 48] 48 #[.slice A T.lp.length c, .slice (some ⟨b, 0, none⟩) 1 1]).run Tryd.prog w = .ok (.slice A' (T.lp.length + 1) c') w2 ∧
      Holds w2 q 54 #[.int .i64 T.st, .int .i64 T.ah, .int .i64 T.en, .slice A T.lp.length c] ∧ Tl (w2.setCell ⟨q, 3, none⟩ (.slice A' (T.lp.length + 1) c')) B q ⟨T.st, T.ah, T.en, T.lp ++ [(x, y)]⟩ ∧
      Chg (fun k => (Value.slice A T.lp.length c).ownBlock = some k) w w2 ∧ w.ownsRow B 51 2 (.slice A T.lp.length c) T.lp.length (prs T.lp) := by
  obtain ⟨hBq, A, c, hH, hO⟩ := h
  obtain ⟨i, hi, hzz⟩ := Option.map_eq_some_iff.1 leap_info
  simp only [Prod.mk.injEq] at hzz
  obtain ⟨hz, hs, hby⟩ := hzz
  obtain ⟨A', c', w2, hrun, ho2, hg2, _⟩ := run_append_rowK (P := Tryd.prog) w B 48 48 51 i _ 2 16 Tryd.underlying48 hi hz hs hby rfl (by omega) _ T.lp.length _ hO ⟨b, 0, none⟩ 1 1 (prs [(x, y)]) rfl (fun j u hj => by
    rw [Go.WideShapes.add_plain, Nat.zero_add, hy.cell, List.getElem?_toArray]
    exact hj) (prs_one _) (by unfold maxLen; omega) (by omega) hB
  have hC := Chg.of_grown (S := fun k => (Value.slice A T.lp.length c).ownBlock = some k) hg2 (fun k hk => hk)
  have hne := hH.own_apart hO (by decide)
  have hH2 := hH.chg hC hne
  have hne2 := hH2.own_apart ho2 (by decide)
  have hlen : (T.lp ++ [(x, y)]).length = T.lp.length + 1 := by simp
  refine ⟨A, c, hH, A', c', w2, hrun, hH2, ⟨hBq, A', c', ?_, ?_⟩, hC, hO⟩
  · rw [hlen]
    exact hH2.put 3 _
  · rw [hlen, prs_append]
    exact own_chg ho2 (Chg.set w2 q 3 _ (S := fun k => k = q) rfl) (fun z hz e => hne2 (by rw [← e]; exact hz))
theorem Rd.chg {w w' : World} {B g : Nat} {L ws : List ByteArray} {k : Nat} {S : Nat → Prop} (h : Rd w B g L k ws) (hc : Chg S w w') (h1 : ∀ cs, Holds w g 64 cs → ¬ S g) (h2 : ∀ v n xs x, w.ownsRow B 9 1 v n xs → v.ownBlock = some x → ¬ S x) : Rd w' B g L k ws := by
  obtain ⟨hB, hl, hf, hs, A, c, A2, c2, k1, k2, k3⟩ := h
  exact ⟨hB, hl, hf, hs, A, c, A2, c2, k1.chg hc (h1 _ k1), own_chg k2 hc (fun x hx => h2 _ _ _ _ k2 hx), own_chg k3 hc (fun x hx => h2 _ _ _ _ k3 hx)⟩
theorem RT.push {w0 w : World} {g q : Nat} {L ws : List ByteArray} {k : Nat} {T : TB} (h : RT w0 w g q L k ws T) (hn : T.lp.length ≤ 1000) {b : Nat} {te : TypeId} {x y : Int} (hy : Holds w b te #[.int .i64 x, .int .i64 y]) :
    ∃ A c, w.cell? ⟨q, 3, none⟩ = some (.slice A T.lp.length c) ∧ ∃ A' c' w2, (Builtin.append_ #[48, 48] 48 #[.slice A T.lp.length c, .slice (some ⟨b, 0, none⟩) 1 1]).run Tryd.prog w = .ok (.slice A' (T.lp.length + 1) c') w2 ∧
      w2.cell? ⟨q, 3, none⟩ = some (.slice A T.lp.length c) ∧ w2.frozen? ⟨q, 3, none⟩ = false ∧ Chg (fun k => (Value.slice A T.lp.length c).ownBlock = some k) w w2 ∧ RT w0 (w2.setCell ⟨q, 3, none⟩ (.slice A' (T.lp.length + 1) c')) g q L k ws ⟨T.st, T.ah, T.en, T.lp ++ [(x, y)]⟩ := by
  obtain ⟨A, c, hH, A', c', w2, hrun, hH2, ht2, hC, hO⟩ := h.tl.push hn h.old.size hy
  refine ⟨A, c, hH.cell 3, A', c', w2, hrun, hH2.cell 3, hH2.soft 3, hC, ?_, ht2, ?_⟩
  · have hr2 := h.rd.chg hC (fun cs hg => hg.own_apart hO (by decide)) (fun v n xs z hv hz e => own_own hv hO (by decide) hz e)
    exact hr2.chg (Chg.set w2 q 3 _ (S := fun k => k = q) rfl) (fun cs hg e => hg.apart hH2 (by decide) e) (fun v n xs z hv hz e => hH2.own_apart hv (by decide) (by rw [← e]; exact hz))
  · have hb := Below.chg h.old hC h.old.size (fun k hk => (hO.lt k hk).1)
    exact hb.setCell h.tl.base _
/-- What a leap's words tell. -/
theorem leapR_bad {T : TB} {ws : List ByteArray} (h : ¬ (ws.length = 3 ∧ ws.head? = some leapB)) : leapR T ws = .error 3 := by
  unfold leapR
  split
  · rw [if_neg]
    rintro rfl
    exact h ⟨rfl, rfl⟩
  · rfl
theorem leapR_three (T : TB) (b c : ByteArray) : leapR T [leapB, b, c] = match dayOf b, stepOf c with
      | some d, some n => if 64 ≤ T.lp.length then .error 6 else if takesB T.st T.lp d then .ok ⟨T.st, T.ah, T.en, T.lp ++ [(d, n)]⟩ else .error 12
      | _, _ => .error 3 := by
  unfold leapR
  exact if_pos rfl
theorem WR.box {w0 w : World} {bb g q : Nat} {b c : ByteArray} {L ws : List ByteArray} {k : Nat} {T : TB} (_ : WR w0 bb g q b c L k ws T w) (t : TypeId) (cs : Array Value) : Box w t cs (w.alloc (.cells cs t)) := Box.start w t cs
theorem pair_info : (Tryd.prog.info? 51).map (·.size) = some 2 := by kernel_rfl
theorem Box.named {w0 w : World} {t : TypeId} {cs : Array Value} (h : Box w0 t cs w) : ∃ b W, w0.heap.size = b ∧ w = W ∧ Holds W b t cs := ⟨_, _, rfl, rfl, h.holds⟩
theorem WR.age {w0 w w' : World} {bb g q : Nat} {b c : ByteArray} {L ws : List ByteArray} {k : Nat} {T : TB} {t : TypeId} {cs : Array Value} (h : WR w0 bb g q b c L k ws T w) (hx : Box w t cs w') : ∃ A c, w'.cell? ⟨q, 3, none⟩ = some (.slice A T.lp.length c) ∧ ∀ z, (Value.slice A T.lp.length c).ownBlock = some z → z < w.heap.size := by
  obtain ⟨_, A, c, hH, hO⟩ := h.2.2.tl
  exact ⟨A, c, (hH.below hx.below hH.lt).cell 3, fun z hz => (hO.lt z hz).2⟩
theorem splice_pair (a b c d : Value) : splice [a, b] 0 [c, d] = [c, d] := splice_all _ _ rfl
theorem Box.all {w0 w : World} {t : TypeId} {cs : Array Value} (h : Box w0 t cs w) (cs' : Array Value) : Box w0 t cs' (w.setRow w0.heap.size cs') := ⟨h.holds.row cs', h.below.grown (grown_row w _ _) h.below.size (fun k e => by cases e; exact Nat.le_refl _)⟩
theorem Box.put {w0 w : World} {t : TypeId} {cs : Array Value} (h : Box w0 t cs w) (i : Nat) (v : Value) : Box w0 t (cs.setIfInBounds i v) (w.setCell ⟨w0.heap.size, i, none⟩ v) := ⟨h.holds.put i v, h.below.setCell (Nat.le_refl _) _⟩
theorem Box.pair {w0 w : World} {t : TypeId} {a b : Value} (h : Box w0 t #[a, b] w) : w.cell? ⟨w0.heap.size, 0, none⟩ = some a ∧ w.cell? ⟨w0.heap.size, 1, none⟩ = some b ∧ w.frozen? ⟨w0.heap.size, 0, none⟩ = false ∧ w.frozen? ⟨w0.heap.size, 1, none⟩ = false := ⟨h.holds.cell 0, h.holds.cell 1, h.holds.soft 0, h.holds.soft 1⟩
set_option maxRecDepth 100000 in
set_option maxHeartbeats 4000000 in
theorem leap_day (w0 w : World) (g q : Nat) (L ws : List ByteArray) (k : Nat) (T : TB) (b c : ByteArray) (h : RT w0 w g q L k [leapB, b, c] T) (hws : [leapB, b, c] = ws) (hbs : b.size ≤ 16384) (hcs : c.size ≤ 16384) (hdb : dayOf b = none) :
    Calls Tryd.prog 49 #[.pointer (some ⟨g, 0, none⟩), .pointer (some ⟨q, 0, none⟩)] w (LinePost w0 g q L k ws (.error 3)) := by
  have hy := behind_yes w w0.heap.size g k L leapB [b, c] h.rd (by simp) (by simp)
  unfold leapB at hy
  have hy2 : Calls Tryd.prog 69 #[.pointer (some ⟨g, 0, none⟩), .string ⟨#[108, 101, 97, 112]⟩, .int .i64 2] w fun e w' => ∃ v, e = .returned v ∧ w' = w ∧ Wds w v [b, c] := hy
  have HR := Lib.hid h
  simp only [hws] at HR
  clear hy hws h
  have HDN := Lib.hid (fun W hk => day_no W g (k : Int) b hdb (by unfold maxLen; omega) hk)
  clear hdb
  go_enter Tryd.func49, Tryd.ntmps49
  go_upto_region 1 with (go_at_call 69; refine hy2.mono ?_; rintro e w1 ⟨v, rfl, hw1, hv⟩; subst hw1; obtain ⟨bb, cc, rfl, hcc, q0, q1⟩ := hv.two; have HE := Lib.hid (show WR w0 bb g q b c L k ws T w1.drew from (show WR w0 bb g q b c L k ws T w1 from ⟨q0, q1, HR.out⟩).below (Below.refl _ _).drew); clear hv q0 q1)
  clear hy2 HR
  refine region_turns (fun (w' : World) => w'.cell? ⟨bb, 1, none⟩ = some (.string b) ∧ w'.cell? ⟨bb, 2, none⟩ = some (.string c) ∧ ∃ U, RT w0 w' g q L k ws U) (fun j => decide (13 ≤ j)) (by kernel_rfl) (HE.out.any) (fun hS => ?_)
  refine Turns.take hS 0 _ rfl (by kernel_rfl) (by kernel_rfl) (by kernel_rfl) (by kernel_rfl) (fun _ _ _ h => h) (by rfl) (fun w' hS' => by (try dsimp only at hS'); go_split_ands; go_simp; (try with_reducible rfl)) ?_
  simp only [Act.put, List.getElem_toArray, List.getElem_cons_succ, List.getElem_cons_zero, List.setIfInBounds_toArray, List.set_cons_zero, List.set_cons_succ]
  refine Turns.take hS 1 _ rfl (by kernel_rfl) (by kernel_rfl) (by kernel_rfl) (by kernel_rfl) (fun _ _ _ h => h) (by rfl) (fun w' hS' => by (try dsimp only at hS'); go_split_ands; go_simp; (try with_reducible rfl)) ?_
  simp only [Act.put, List.getElem_toArray, List.getElem_cons_succ, List.getElem_cons_zero, List.setIfInBounds_toArray, List.set_cons_zero, List.set_cons_succ]
  refine Turns.take hS 2 _ rfl (by kernel_rfl) (by kernel_rfl) (by kernel_rfl) (by kernel_rfl) (fun _ _ _ h => h) (by rfl) (fun w' hS' => by (try dsimp only at hS'); go_split_ands; go_simp; (try with_reducible rfl)) ?_
  simp only [Act.put, List.getElem_toArray, List.getElem_cons_succ, List.getElem_cons_zero, List.setIfInBounds_toArray, List.set_cons_zero, List.set_cons_succ]
  refine Turns.take hS 3 _ rfl (by kernel_rfl) (by kernel_rfl) (by kernel_rfl) (by kernel_rfl) (fun _ _ _ h => h) (by rfl) (fun w' hS' => by (try dsimp only at hS'); go_split_ands; go_simp; (try with_reducible rfl)) ?_
  simp only [Act.put, List.getElem_toArray, List.getElem_cons_succ, List.getElem_cons_zero, List.setIfInBounds_toArray, List.set_cons_zero, List.set_cons_succ]
  refine Turns.take hS 5 _ rfl (by kernel_rfl) (by kernel_rfl) (by kernel_rfl) (by kernel_rfl) (fun _ _ _ h => h) (by rfl) (fun w' hS' => by (try dsimp only at hS'); go_split_ands; go_simp; (try with_reducible rfl)) ?_
  simp only [Act.put, List.getElem_toArray, List.getElem_cons_succ, List.getElem_cons_zero, List.setIfInBounds_toArray, List.set_cons_zero, List.set_cons_succ]
  refine Turns.take hS 6 _ rfl (by kernel_rfl) (by kernel_rfl) (by kernel_rfl) (by kernel_rfl) (fun _ _ _ h => h) (by rfl) (fun w' hS' => by (try dsimp only at hS'); go_split_ands; go_simp; (try with_reducible rfl)) ?_
  simp only [Act.put, List.getElem_toArray, List.getElem_cons_succ, List.getElem_cons_zero, List.setIfInBounds_toArray, List.set_cons_zero, List.set_cons_succ]
  refine Turns.take hS 7 _ rfl (by kernel_rfl) (by kernel_rfl) (by kernel_rfl) (by kernel_rfl) (fun _ _ _ h => h) (by rfl) (fun w' hS' => by (try dsimp only at hS'); go_split_ands; go_simp; (try with_reducible rfl)) ?_
  simp only [Act.put, List.getElem_toArray, List.getElem_cons_succ, List.getElem_cons_zero, List.setIfInBounds_toArray, List.set_cons_zero, List.set_cons_succ]
  refine Turns.take hS 8 _ rfl (by kernel_rfl) (by kernel_rfl) (by kernel_rfl) (by kernel_rfl) (fun _ _ _ h => h) (by rfl) (fun w' hS' => by (try dsimp only at hS'); go_split_ands; go_simp; (try with_reducible rfl)) ?_
  simp only [Act.put, List.getElem_toArray, List.getElem_cons_succ, List.getElem_cons_zero, List.setIfInBounds_toArray, List.set_cons_zero, List.set_cons_succ]
  refine Turns.either 4 11 rfl rfl (by kernel_rfl) (by rfl) (by rfl) (fun K hK => ?_) (fun K hK => ?_)
  · go_simp
    go_at_call 70
    refine (HDN.out _ HE.out.2.2.one).mono ?_
    rintro e w2 ⟨rfl, hb2⟩
    exact ⟨rfl, .inr ⟨3, rfl, rfl, (HE.out.2.2.below hb2).old⟩⟩
  · go_simp
    have HX := Lib.hid (HE.out.box 51 #[.int .i64 0, .int .i64 0])
    refine hK.out _ _ (show (fun (w' : World) => w'.cell? ⟨bb, 1, none⟩ = some (.string b) ∧ w'.cell? ⟨bb, 2, none⟩ = some (.string c) ∧ ∃ U, RT w0 w' g q L k ws U) _ from (HE.out.below HX.out.below).any) ?_
    clear hK K hS
    have hS := (show (fun (w' : World) => w'.cell? ⟨bb, 1, none⟩ = some (.string b) ∧ w'.cell? ⟨bb, 2, none⟩ = some (.string c) ∧ ∃ U, RT w0 w' g q L k ws U) _ from (HE.out.below HX.out.below).any)
    refine Turns.next 4 rfl (by kernel_rfl) (by rfl) (fun K hK => ?_)
    go_simp
    go_at_call 70
    refine (HDN.out _ (HE.out.2.2.below HX.out.below).one).mono ?_
    rintro e w2 ⟨rfl, hb2⟩
    exact ⟨rfl, .inr ⟨3, rfl, rfl, ((HE.out.2.2.below HX.out.below).below hb2).old⟩⟩
set_option maxRecDepth 100000 in
set_option maxHeartbeats 4000000 in
theorem leap_step (w0 w : World) (g q : Nat) (L ws : List ByteArray) (k : Nat) (T : TB) (b c : ByteArray) (h : RT w0 w g q L k [leapB, b, c] T) (hws : [leapB, b, c] = ws) (hbs : b.size ≤ 16384) (hcs : c.size ≤ 16384) (d : Int) (hdb : dayOf b = some d) (hsc : stepOf c = none) :
    Calls Tryd.prog 49 #[.pointer (some ⟨g, 0, none⟩), .pointer (some ⟨q, 0, none⟩)] w (LinePost w0 g q L k ws (.error 3)) := by
  have hy := behind_yes w w0.heap.size g k L leapB [b, c] h.rd (by simp) (by simp)
  unfold leapB at hy
  have hy2 : Calls Tryd.prog 69 #[.pointer (some ⟨g, 0, none⟩), .string ⟨#[108, 101, 97, 112]⟩, .int .i64 2] w fun e w' => ∃ v, e = .returned v ∧ w' = w ∧ Wds w v [b, c] := hy
  have HR := Lib.hid h
  simp only [hws] at HR
  clear hy hws h
  have HDY := Lib.hid (fun W => day_yes W g b d hdb)
  clear hdb
  have HSN := Lib.hid (fun W hk => step_no W g (k : Int) c hsc (by unfold maxLen; omega) hk)
  clear hsc
  go_enter Tryd.func49, Tryd.ntmps49
  go_upto_region 1 with (go_at_call 69; refine hy2.mono ?_; rintro e w1 ⟨v, rfl, hw1, hv⟩; subst hw1; obtain ⟨bb, cc, rfl, hcc, q0, q1⟩ := hv.two; have HE := Lib.hid (show WR w0 bb g q b c L k ws T w1.drew from (show WR w0 bb g q b c L k ws T w1 from ⟨q0, q1, HR.out⟩).below (Below.refl _ _).drew); clear hv q0 q1)
  clear hy2 HR
  refine region_turns (fun (w' : World) => w'.cell? ⟨bb, 1, none⟩ = some (.string b) ∧ w'.cell? ⟨bb, 2, none⟩ = some (.string c) ∧ ∃ U, RT w0 w' g q L k ws U) (fun j => decide (13 ≤ j)) (by kernel_rfl) (HE.out.any) (fun hS => ?_)
  refine Turns.take hS 0 _ rfl (by kernel_rfl) (by kernel_rfl) (by kernel_rfl) (by kernel_rfl) (fun _ _ _ h => h) (by rfl) (fun w' hS' => by (try dsimp only at hS'); go_split_ands; go_simp; (try with_reducible rfl)) ?_
  simp only [Act.put, List.getElem_toArray, List.getElem_cons_succ, List.getElem_cons_zero, List.setIfInBounds_toArray, List.set_cons_zero, List.set_cons_succ]
  refine Turns.take hS 1 _ rfl (by kernel_rfl) (by kernel_rfl) (by kernel_rfl) (by kernel_rfl) (fun _ _ _ h => h) (by rfl) (fun w' hS' => by (try dsimp only at hS'); go_split_ands; go_simp; (try with_reducible rfl)) ?_
  simp only [Act.put, List.getElem_toArray, List.getElem_cons_succ, List.getElem_cons_zero, List.setIfInBounds_toArray, List.set_cons_zero, List.set_cons_succ]
  refine Turns.take hS 2 _ rfl (by kernel_rfl) (by kernel_rfl) (by kernel_rfl) (by kernel_rfl) (fun _ _ _ h => h) (by rfl) (fun w' hS' => by (try dsimp only at hS'); go_split_ands; go_simp; (try with_reducible rfl)) ?_
  simp only [Act.put, List.getElem_toArray, List.getElem_cons_succ, List.getElem_cons_zero, List.setIfInBounds_toArray, List.set_cons_zero, List.set_cons_succ]
  refine Turns.take hS 3 _ rfl (by kernel_rfl) (by kernel_rfl) (by kernel_rfl) (by kernel_rfl) (fun _ _ _ h => h) (by rfl) (fun w' hS' => by (try dsimp only at hS'); go_split_ands; go_simp; (try with_reducible rfl)) ?_
  simp only [Act.put, List.getElem_toArray, List.getElem_cons_succ, List.getElem_cons_zero, List.setIfInBounds_toArray, List.set_cons_zero, List.set_cons_succ]
  refine Turns.take hS 5 _ rfl (by kernel_rfl) (by kernel_rfl) (by kernel_rfl) (by kernel_rfl) (fun _ _ _ h => h) (by rfl) (fun w' hS' => by (try dsimp only at hS'); go_split_ands; go_simp; (try with_reducible rfl)) ?_
  simp only [Act.put, List.getElem_toArray, List.getElem_cons_succ, List.getElem_cons_zero, List.setIfInBounds_toArray, List.set_cons_zero, List.set_cons_succ]
  refine Turns.take hS 6 _ rfl (by kernel_rfl) (by kernel_rfl) (by kernel_rfl) (by kernel_rfl) (fun _ _ _ h => h) (by rfl) (fun w' hS' => by (try dsimp only at hS'); go_split_ands; go_simp; (try with_reducible rfl)) ?_
  simp only [Act.put, List.getElem_toArray, List.getElem_cons_succ, List.getElem_cons_zero, List.setIfInBounds_toArray, List.set_cons_zero, List.set_cons_succ]
  refine Turns.take hS 7 _ rfl (by kernel_rfl) (by kernel_rfl) (by kernel_rfl) (by kernel_rfl) (fun _ _ _ h => h) (by rfl) (fun w' hS' => by (try dsimp only at hS'); go_split_ands; go_simp; (try with_reducible rfl)) ?_
  simp only [Act.put, List.getElem_toArray, List.getElem_cons_succ, List.getElem_cons_zero, List.setIfInBounds_toArray, List.set_cons_zero, List.set_cons_succ]
  refine Turns.take hS 8 _ rfl (by kernel_rfl) (by kernel_rfl) (by kernel_rfl) (by kernel_rfl) (fun _ _ _ h => h) (by rfl) (fun w' hS' => by (try dsimp only at hS'); go_split_ands; go_simp; (try with_reducible rfl)) ?_
  simp only [Act.put, List.getElem_toArray, List.getElem_cons_succ, List.getElem_cons_zero, List.setIfInBounds_toArray, List.set_cons_zero, List.set_cons_succ]
  refine Turns.either 4 11 rfl rfl (by kernel_rfl) (by rfl) (by rfl) (fun K hK => ?_) (fun K hK => ?_)
  · go_simp
    go_at_call 70
    refine (HDY.out _).mono ?_
    rintro e w2 ⟨rfl, hb2⟩
    replace HE := Lib.hid (HE.out.below hb2)
    refine hK.out _ _ (show (fun (w' : World) => w'.cell? ⟨bb, 1, none⟩ = some (.string b) ∧ w'.cell? ⟨bb, 2, none⟩ = some (.string c) ∧ ∃ U, RT w0 w' g q L k ws U) _ from HE.out.any) ?_
    clear hK K hS
    have hS := (show (fun (w' : World) => w'.cell? ⟨bb, 1, none⟩ = some (.string b) ∧ w'.cell? ⟨bb, 2, none⟩ = some (.string c) ∧ ∃ U, RT w0 w' g q L k ws U) _ from HE.out.any)
    refine Turns.either 9 11 rfl rfl (by kernel_rfl) (by rfl) (by rfl) (fun K hK => ?_) (fun K hK => ?_)
    · go_simp
      go_at_call 72
      refine (HSN.out _ HE.out.2.2.one).mono ?_
      rintro e w3 ⟨rfl, hb3⟩
      exact ⟨rfl, .inr ⟨3, rfl, rfl, (HE.out.2.2.below hb3).old⟩⟩
    · go_simp
      have HX := Lib.hid (HE.out.box 51 #[.int .i64 0, .int .i64 0])
      refine hK.out _ _ (show (fun (w' : World) => w'.cell? ⟨bb, 1, none⟩ = some (.string b) ∧ w'.cell? ⟨bb, 2, none⟩ = some (.string c) ∧ ∃ U, RT w0 w' g q L k ws U) _ from (HE.out.below HX.out.below).any) ?_
      clear hK K hS
      have hS := (show (fun (w' : World) => w'.cell? ⟨bb, 1, none⟩ = some (.string b) ∧ w'.cell? ⟨bb, 2, none⟩ = some (.string c) ∧ ∃ U, RT w0 w' g q L k ws U) _ from (HE.out.below HX.out.below).any)
      refine Turns.next 9 rfl (by kernel_rfl) (by rfl) (fun K hK => ?_)
      go_simp
      go_at_call 72
      refine (HSN.out _ (HE.out.2.2.below HX.out.below).one).mono ?_
      rintro e w3 ⟨rfl, hb3⟩
      exact ⟨rfl, .inr ⟨3, rfl, rfl, ((HE.out.2.2.below HX.out.below).below hb3).old⟩⟩
  · go_simp
    have HX := Lib.hid (HE.out.box 51 #[.int .i64 0, .int .i64 0])
    refine hK.out _ _ (show (fun (w' : World) => w'.cell? ⟨bb, 1, none⟩ = some (.string b) ∧ w'.cell? ⟨bb, 2, none⟩ = some (.string c) ∧ ∃ U, RT w0 w' g q L k ws U) _ from (HE.out.below HX.out.below).any) ?_
    clear hK K hS
    have hS := (show (fun (w' : World) => w'.cell? ⟨bb, 1, none⟩ = some (.string b) ∧ w'.cell? ⟨bb, 2, none⟩ = some (.string c) ∧ ∃ U, RT w0 w' g q L k ws U) _ from (HE.out.below HX.out.below).any)
    refine Turns.next 4 rfl (by kernel_rfl) (by rfl) (fun K hK => ?_)
    go_simp
    go_at_call 70
    refine (HDY.out _).mono ?_
    rintro e w2 ⟨rfl, hb2⟩
    replace HX := Lib.hid (HX.out.next hb2)
    refine hK.out _ _ (show (fun (w' : World) => w'.cell? ⟨bb, 1, none⟩ = some (.string b) ∧ w'.cell? ⟨bb, 2, none⟩ = some (.string c) ∧ ∃ U, RT w0 w' g q L k ws U) _ from (HE.out.below HX.out.below).any) ?_
    clear hK K hS
    have hS := (show (fun (w' : World) => w'.cell? ⟨bb, 1, none⟩ = some (.string b) ∧ w'.cell? ⟨bb, 2, none⟩ = some (.string c) ∧ ∃ U, RT w0 w' g q L k ws U) _ from (HE.out.below HX.out.below).any)
    refine Turns.next 9 rfl (by kernel_rfl) (by rfl) (fun K hK => ?_)
    go_simp
    go_at_call 72
    refine (HSN.out _ (HE.out.2.2.below HX.out.below).one).mono ?_
    rintro e w3 ⟨rfl, hb3⟩
    exact ⟨rfl, .inr ⟨3, rfl, rfl, ((HE.out.2.2.below HX.out.below).below hb3).old⟩⟩
set_option maxRecDepth 100000 in
set_option maxHeartbeats 4000000 in
theorem leap_full (w0 w : World) (g q : Nat) (L ws : List ByteArray) (k : Nat) (T : TB) (b c : ByteArray) (h : RT w0 w g q L k [leapB, b, c] T) (hws : [leapB, b, c] = ws) (hbs : b.size ≤ 16384) (hcs : c.size ≤ 16384) (d n : Int) (hdb : dayOf b = some d) (hsc : stepOf c = some n) (h64 : 64 ≤ T.lp.length) :
    Calls Tryd.prog 49 #[.pointer (some ⟨g, 0, none⟩), .pointer (some ⟨q, 0, none⟩)] w (LinePost w0 g q L k ws (.error 6)) := by
  have hy := behind_yes w w0.heap.size g k L leapB [b, c] h.rd (by simp) (by simp)
  unfold leapB at hy
  have hy2 : Calls Tryd.prog 69 #[.pointer (some ⟨g, 0, none⟩), .string ⟨#[108, 101, 97, 112]⟩, .int .i64 2] w fun e w' => ∃ v, e = .returned v ∧ w' = w ∧ Wds w v [b, c] := hy
  have HR := Lib.hid h
  simp only [hws] at HR
  clear hy hws h
  have HDY := Lib.hid (fun W => day_yes W g b d hdb)
  clear hdb
  have HSY := Lib.hid (fun W => step_yes W g c n hsc (by unfold maxLen; omega))
  clear hsc
  have tf : decide ((T.lp.length : Int) < 64) = false := decide_eq_false (by omega)
  have tf2 : decide (T.lp.length < 64) = false := decide_eq_false (by omega)
  have tf3 : ¬ T.lp.length < 64 := by omega
  clear h64
  go_enter Tryd.func49, Tryd.ntmps49
  go_upto_region 1 with (go_at_call 69; refine hy2.mono ?_; rintro e w1 ⟨v, rfl, hw1, hv⟩; subst hw1; obtain ⟨bb, cc, rfl, hcc, q0, q1⟩ := hv.two; have HE := Lib.hid (show WR w0 bb g q b c L k ws T w1.drew from (show WR w0 bb g q b c L k ws T w1 from ⟨q0, q1, HR.out⟩).below (Below.refl _ _).drew); clear hv q0 q1)
  clear hy2 HR
  refine region_turns (fun (w' : World) => w'.cell? ⟨bb, 1, none⟩ = some (.string b) ∧ w'.cell? ⟨bb, 2, none⟩ = some (.string c) ∧ ∃ U, RT w0 w' g q L k ws U) (fun j => decide (13 ≤ j)) (by kernel_rfl) (HE.out.any) (fun hS => ?_)
  refine Turns.take hS 0 _ rfl (by kernel_rfl) (by kernel_rfl) (by kernel_rfl) (by kernel_rfl) (fun _ _ _ h => h) (by rfl) (fun w' hS' => by (try dsimp only at hS'); go_split_ands; go_simp; (try with_reducible rfl)) ?_
  simp only [Act.put, List.getElem_toArray, List.getElem_cons_succ, List.getElem_cons_zero, List.setIfInBounds_toArray, List.set_cons_zero, List.set_cons_succ]
  refine Turns.take hS 1 _ rfl (by kernel_rfl) (by kernel_rfl) (by kernel_rfl) (by kernel_rfl) (fun _ _ _ h => h) (by rfl) (fun w' hS' => by (try dsimp only at hS'); go_split_ands; go_simp; (try with_reducible rfl)) ?_
  simp only [Act.put, List.getElem_toArray, List.getElem_cons_succ, List.getElem_cons_zero, List.setIfInBounds_toArray, List.set_cons_zero, List.set_cons_succ]
  refine Turns.take hS 2 _ rfl (by kernel_rfl) (by kernel_rfl) (by kernel_rfl) (by kernel_rfl) (fun _ _ _ h => h) (by rfl) (fun w' hS' => by (try dsimp only at hS'); go_split_ands; go_simp; (try with_reducible rfl)) ?_
  simp only [Act.put, List.getElem_toArray, List.getElem_cons_succ, List.getElem_cons_zero, List.setIfInBounds_toArray, List.set_cons_zero, List.set_cons_succ]
  refine Turns.take hS 3 _ rfl (by kernel_rfl) (by kernel_rfl) (by kernel_rfl) (by kernel_rfl) (fun _ _ _ h => h) (by rfl) (fun w' hS' => by (try dsimp only at hS'); go_split_ands; go_simp; (try with_reducible rfl)) ?_
  simp only [Act.put, List.getElem_toArray, List.getElem_cons_succ, List.getElem_cons_zero, List.setIfInBounds_toArray, List.set_cons_zero, List.set_cons_succ]
  refine Turns.take hS 5 _ rfl (by kernel_rfl) (by kernel_rfl) (by kernel_rfl) (by kernel_rfl) (fun _ _ _ h => h) (by rfl) (fun w' hS' => by (try dsimp only at hS'); go_split_ands; go_simp; (try with_reducible rfl)) ?_
  simp only [Act.put, List.getElem_toArray, List.getElem_cons_succ, List.getElem_cons_zero, List.setIfInBounds_toArray, List.set_cons_zero, List.set_cons_succ]
  refine Turns.take hS 6 _ rfl (by kernel_rfl) (by kernel_rfl) (by kernel_rfl) (by kernel_rfl) (fun _ _ _ h => h) (by rfl) (fun w' hS' => by (try dsimp only at hS'); go_split_ands; go_simp; (try with_reducible rfl)) ?_
  simp only [Act.put, List.getElem_toArray, List.getElem_cons_succ, List.getElem_cons_zero, List.setIfInBounds_toArray, List.set_cons_zero, List.set_cons_succ]
  refine Turns.take hS 7 _ rfl (by kernel_rfl) (by kernel_rfl) (by kernel_rfl) (by kernel_rfl) (fun _ _ _ h => h) (by rfl) (fun w' hS' => by (try dsimp only at hS'); go_split_ands; go_simp; (try with_reducible rfl)) ?_
  simp only [Act.put, List.getElem_toArray, List.getElem_cons_succ, List.getElem_cons_zero, List.setIfInBounds_toArray, List.set_cons_zero, List.set_cons_succ]
  refine Turns.take hS 8 _ rfl (by kernel_rfl) (by kernel_rfl) (by kernel_rfl) (by kernel_rfl) (fun _ _ _ h => h) (by rfl) (fun w' hS' => by (try dsimp only at hS'); go_split_ands; go_simp; (try with_reducible rfl)) ?_
  simp only [Act.put, List.getElem_toArray, List.getElem_cons_succ, List.getElem_cons_zero, List.setIfInBounds_toArray, List.set_cons_zero, List.set_cons_succ]
  refine Turns.either 4 11 rfl rfl (by kernel_rfl) (by rfl) (by rfl) (fun K hK => ?_) (fun K hK => ?_)
  · go_simp
    go_at_call 70
    refine (HDY.out _).mono ?_
    rintro e w2 ⟨rfl, hb2⟩
    replace HE := Lib.hid (HE.out.below hb2)
    refine hK.out _ _ (show (fun (w' : World) => w'.cell? ⟨bb, 1, none⟩ = some (.string b) ∧ w'.cell? ⟨bb, 2, none⟩ = some (.string c) ∧ ∃ U, RT w0 w' g q L k ws U) _ from HE.out.any) ?_
    clear hK K hS
    have hS := (show (fun (w' : World) => w'.cell? ⟨bb, 1, none⟩ = some (.string b) ∧ w'.cell? ⟨bb, 2, none⟩ = some (.string c) ∧ ∃ U, RT w0 w' g q L k ws U) _ from HE.out.any)
    refine Turns.either 9 11 rfl rfl (by kernel_rfl) (by rfl) (by rfl) (fun K hK => ?_) (fun K hK => ?_)
    · go_simp
      go_at_call 72
      refine (HSY.out _).mono ?_
      rintro e w3 ⟨rfl, hb3⟩
      replace HE := Lib.hid (HE.out.below hb3)
      refine hK.out _ _ (show (fun (w' : World) => w'.cell? ⟨bb, 1, none⟩ = some (.string b) ∧ w'.cell? ⟨bb, 2, none⟩ = some (.string c) ∧ ∃ U, RT w0 w' g q L k ws U) _ from HE.out.any) ?_
      clear hK K hS
      have hS := (show (fun (w' : World) => w'.cell? ⟨bb, 1, none⟩ = some (.string b) ∧ w'.cell? ⟨bb, 2, none⟩ = some (.string c) ∧ ∃ U, RT w0 w' g q L k ws U) _ from HE.out.any)
      refine Turns.take hS 10 _ rfl (by kernel_rfl) (by kernel_rfl) (by kernel_rfl) (by kernel_rfl) (fun _ _ _ h => h) (by rfl) (fun w' hS' => by (try dsimp only at hS'); go_split_ands; go_simp; (try with_reducible rfl)) ?_
      simp only [Act.put, List.getElem_toArray, List.getElem_cons_succ, List.getElem_cons_zero, List.setIfInBounds_toArray, List.set_cons_zero, List.set_cons_succ]
      refine Turns.next 11 rfl (by kernel_rfl) (by rfl) (fun K hK => ?_)
      go_simp
      have HX := Lib.hid (HE.out.box 51 #[.int .i64 0, .int .i64 0])
      refine hK.out _ _ (show (fun (w' : World) => w'.cell? ⟨bb, 1, none⟩ = some (.string b) ∧ w'.cell? ⟨bb, 2, none⟩ = some (.string c) ∧ ∃ U, RT w0 w' g q L k ws U) _ from (HE.out.below HX.out.below).any) ?_
      clear hK K hS
      have hS := (show (fun (w' : World) => w'.cell? ⟨bb, 1, none⟩ = some (.string b) ∧ w'.cell? ⟨bb, 2, none⟩ = some (.string c) ∧ ∃ U, RT w0 w' g q L k ws U) _ from (HE.out.below HX.out.below).any)
      refine Turns.next 12 rfl (by kernel_rfl) (by rfl) (fun K hK => ?_)
      have hH := HX.out.holds
      replace HX := Lib.hid (HX.out.all #[.int .i64 d, .int .i64 n])
      simp only [List.getElem_toArray, List.getElem_cons_succ, List.getElem_cons_zero]
      refine wp_store_at 51 (.tmp 5) (.tmp 18) rfl _ 0 [.int .i64 d, .int .i64 n] ?hx ?hy 51 [.int .i64 0, .int .i64 0] hH pair_info (Nat.le_refl 2) (by simp [Value.oneCell']) ?_
      case hx => first | rfl | simp [Act.eval, Act.put]
      case hy => first | rfl | simp [Act.eval, Act.put]
      rw [splice_pair]
      clear hH
      refine hK.out _ _ (show (fun (w' : World) => w'.cell? ⟨bb, 1, none⟩ = some (.string b) ∧ w'.cell? ⟨bb, 2, none⟩ = some (.string c) ∧ ∃ U, RT w0 w' g q L k ws U) _ from (HE.out.below HX.out.below).any) ?_
      clear hK K hS
      have hS := (show (fun (w' : World) => w'.cell? ⟨bb, 1, none⟩ = some (.string b) ∧ w'.cell? ⟨bb, 2, none⟩ = some (.string c) ∧ ∃ U, RT w0 w' g q L k ws U) _ from (HE.out.below HX.out.below).any)
      refine Turns.rest (late_done (by kernel_rfl)) ?_
      refine any_tail 13 (by rfl) (by kernel_rfl) ?_
      simp only [List.drop_succ_cons, List.drop_zero]
      clear hS
      have HR := Lib.hid (HE.out.2.2.below HX.out.below)
      obtain ⟨Ag, cg, hag1, hag2⟩ := HE.out.age HX.out
      obtain ⟨b0, W, hb0, hW, hL⟩ := HX.out.named
      rw [hW] at hag1
      rw [hb0] at hag2
      have HAG := Lib.hid hag2
      have HAC := Lib.hid hag1
      simp only [hW] at HR ⊢
      first | simp only [hb0] | (have hb1 : w1.heap.size = b0 := hb0; simp only [hb1])
      have HL := Lib.hid hL
      clear hW hb0 HX HE hL hag1 hag2
      obtain ⟨At, ct, hT⟩ := HR.out.tbl
      have t3 := hT.cell 3
      have l0 := HL.out.cell 0
      have l1 := HL.out.cell 1
      clear hT
      go_wp2_with (go_at_call 51; refine (must_no _ _ (k : Int) _ HR.out.one).mono ?_; rintro e w4 ⟨rfl, hw4⟩; replace hw4 := hw4.symm; subst hw4)
      exact ⟨rfl, .inr ⟨6, rfl, rfl, HR.out.old⟩⟩
    · go_simp
      have HX := Lib.hid (HE.out.box 51 #[.int .i64 0, .int .i64 0])
      refine hK.out _ _ (show (fun (w' : World) => w'.cell? ⟨bb, 1, none⟩ = some (.string b) ∧ w'.cell? ⟨bb, 2, none⟩ = some (.string c) ∧ ∃ U, RT w0 w' g q L k ws U) _ from (HE.out.below HX.out.below).any) ?_
      clear hK K hS
      have hS := (show (fun (w' : World) => w'.cell? ⟨bb, 1, none⟩ = some (.string b) ∧ w'.cell? ⟨bb, 2, none⟩ = some (.string c) ∧ ∃ U, RT w0 w' g q L k ws U) _ from (HE.out.below HX.out.below).any)
      refine Turns.next 9 rfl (by kernel_rfl) (by rfl) (fun K hK => ?_)
      go_simp
      go_at_call 72
      refine (HSY.out _).mono ?_
      rintro e w3 ⟨rfl, hb3⟩
      replace HX := Lib.hid (HX.out.next hb3)
      refine hK.out _ _ (show (fun (w' : World) => w'.cell? ⟨bb, 1, none⟩ = some (.string b) ∧ w'.cell? ⟨bb, 2, none⟩ = some (.string c) ∧ ∃ U, RT w0 w' g q L k ws U) _ from (HE.out.below HX.out.below).any) ?_
      clear hK K hS
      have hS := (show (fun (w' : World) => w'.cell? ⟨bb, 1, none⟩ = some (.string b) ∧ w'.cell? ⟨bb, 2, none⟩ = some (.string c) ∧ ∃ U, RT w0 w' g q L k ws U) _ from (HE.out.below HX.out.below).any)
      refine Turns.take hS 10 _ rfl (by kernel_rfl) (by kernel_rfl) (by kernel_rfl) (by kernel_rfl) (fun _ _ _ h => h) (by rfl) (fun w' hS' => by (try dsimp only at hS'); go_split_ands; go_simp; (try with_reducible rfl)) ?_
      simp only [Act.put, List.getElem_toArray, List.getElem_cons_succ, List.getElem_cons_zero, List.setIfInBounds_toArray, List.set_cons_zero, List.set_cons_succ]
      refine Turns.next 12 rfl (by kernel_rfl) (by rfl) (fun K hK => ?_)
      have hH := HX.out.holds
      replace HX := Lib.hid (HX.out.all #[.int .i64 d, .int .i64 n])
      simp only [List.getElem_toArray, List.getElem_cons_succ, List.getElem_cons_zero]
      refine wp_store_at 51 (.tmp 5) (.tmp 18) rfl _ 0 [.int .i64 d, .int .i64 n] ?hx ?hy 51 [.int .i64 0, .int .i64 0] hH pair_info (Nat.le_refl 2) (by simp [Value.oneCell']) ?_
      case hx => first | rfl | simp [Act.eval, Act.put]
      case hy => first | rfl | simp [Act.eval, Act.put]
      rw [splice_pair]
      clear hH
      refine hK.out _ _ (show (fun (w' : World) => w'.cell? ⟨bb, 1, none⟩ = some (.string b) ∧ w'.cell? ⟨bb, 2, none⟩ = some (.string c) ∧ ∃ U, RT w0 w' g q L k ws U) _ from (HE.out.below HX.out.below).any) ?_
      clear hK K hS
      have hS := (show (fun (w' : World) => w'.cell? ⟨bb, 1, none⟩ = some (.string b) ∧ w'.cell? ⟨bb, 2, none⟩ = some (.string c) ∧ ∃ U, RT w0 w' g q L k ws U) _ from (HE.out.below HX.out.below).any)
      refine Turns.rest (late_done (by kernel_rfl)) ?_
      refine any_tail 13 (by rfl) (by kernel_rfl) ?_
      simp only [List.drop_succ_cons, List.drop_zero]
      clear hS
      have HR := Lib.hid (HE.out.2.2.below HX.out.below)
      obtain ⟨Ag, cg, hag1, hag2⟩ := HE.out.age HX.out
      obtain ⟨b0, W, hb0, hW, hL⟩ := HX.out.named
      rw [hW] at hag1
      rw [hb0] at hag2
      have HAG := Lib.hid hag2
      have HAC := Lib.hid hag1
      simp only [hW] at HR ⊢
      first | simp only [hb0] | (have hb1 : w1.heap.size = b0 := hb0; simp only [hb1])
      have HL := Lib.hid hL
      clear hW hb0 HX HE hL hag1 hag2
      obtain ⟨At, ct, hT⟩ := HR.out.tbl
      have t3 := hT.cell 3
      have l0 := HL.out.cell 0
      have l1 := HL.out.cell 1
      clear hT
      go_wp2_with (go_at_call 51; refine (must_no _ _ (k : Int) _ HR.out.one).mono ?_; rintro e w4 ⟨rfl, hw4⟩; replace hw4 := hw4.symm; subst hw4)
      exact ⟨rfl, .inr ⟨6, rfl, rfl, HR.out.old⟩⟩
  · go_simp
    have HX := Lib.hid (HE.out.box 51 #[.int .i64 0, .int .i64 0])
    refine hK.out _ _ (show (fun (w' : World) => w'.cell? ⟨bb, 1, none⟩ = some (.string b) ∧ w'.cell? ⟨bb, 2, none⟩ = some (.string c) ∧ ∃ U, RT w0 w' g q L k ws U) _ from (HE.out.below HX.out.below).any) ?_
    clear hK K hS
    have hS := (show (fun (w' : World) => w'.cell? ⟨bb, 1, none⟩ = some (.string b) ∧ w'.cell? ⟨bb, 2, none⟩ = some (.string c) ∧ ∃ U, RT w0 w' g q L k ws U) _ from (HE.out.below HX.out.below).any)
    refine Turns.next 4 rfl (by kernel_rfl) (by rfl) (fun K hK => ?_)
    go_simp
    go_at_call 70
    refine (HDY.out _).mono ?_
    rintro e w2 ⟨rfl, hb2⟩
    replace HX := Lib.hid (HX.out.next hb2)
    refine hK.out _ _ (show (fun (w' : World) => w'.cell? ⟨bb, 1, none⟩ = some (.string b) ∧ w'.cell? ⟨bb, 2, none⟩ = some (.string c) ∧ ∃ U, RT w0 w' g q L k ws U) _ from (HE.out.below HX.out.below).any) ?_
    clear hK K hS
    have hS := (show (fun (w' : World) => w'.cell? ⟨bb, 1, none⟩ = some (.string b) ∧ w'.cell? ⟨bb, 2, none⟩ = some (.string c) ∧ ∃ U, RT w0 w' g q L k ws U) _ from (HE.out.below HX.out.below).any)
    refine Turns.next 9 rfl (by kernel_rfl) (by rfl) (fun K hK => ?_)
    go_simp
    go_at_call 72
    refine (HSY.out _).mono ?_
    rintro e w3 ⟨rfl, hb3⟩
    replace HX := Lib.hid (HX.out.next hb3)
    refine hK.out _ _ (show (fun (w' : World) => w'.cell? ⟨bb, 1, none⟩ = some (.string b) ∧ w'.cell? ⟨bb, 2, none⟩ = some (.string c) ∧ ∃ U, RT w0 w' g q L k ws U) _ from (HE.out.below HX.out.below).any) ?_
    clear hK K hS
    have hS := (show (fun (w' : World) => w'.cell? ⟨bb, 1, none⟩ = some (.string b) ∧ w'.cell? ⟨bb, 2, none⟩ = some (.string c) ∧ ∃ U, RT w0 w' g q L k ws U) _ from (HE.out.below HX.out.below).any)
    refine Turns.take hS 10 _ rfl (by kernel_rfl) (by kernel_rfl) (by kernel_rfl) (by kernel_rfl) (fun _ _ _ h => h) (by rfl) (fun w' hS' => by (try dsimp only at hS'); go_split_ands; go_simp; (try with_reducible rfl)) ?_
    simp only [Act.put, List.getElem_toArray, List.getElem_cons_succ, List.getElem_cons_zero, List.setIfInBounds_toArray, List.set_cons_zero, List.set_cons_succ]
    refine Turns.next 12 rfl (by kernel_rfl) (by rfl) (fun K hK => ?_)
    have hH := HX.out.holds
    replace HX := Lib.hid (HX.out.all #[.int .i64 d, .int .i64 n])
    simp only [List.getElem_toArray, List.getElem_cons_succ, List.getElem_cons_zero]
    refine wp_store_at 51 (.tmp 5) (.tmp 18) rfl _ 0 [.int .i64 d, .int .i64 n] ?hx ?hy 51 [.int .i64 0, .int .i64 0] hH pair_info (Nat.le_refl 2) (by simp [Value.oneCell']) ?_
    case hx => first | rfl | simp [Act.eval, Act.put]
    case hy => first | rfl | simp [Act.eval, Act.put]
    rw [splice_pair]
    clear hH
    refine hK.out _ _ (show (fun (w' : World) => w'.cell? ⟨bb, 1, none⟩ = some (.string b) ∧ w'.cell? ⟨bb, 2, none⟩ = some (.string c) ∧ ∃ U, RT w0 w' g q L k ws U) _ from (HE.out.below HX.out.below).any) ?_
    clear hK K hS
    have hS := (show (fun (w' : World) => w'.cell? ⟨bb, 1, none⟩ = some (.string b) ∧ w'.cell? ⟨bb, 2, none⟩ = some (.string c) ∧ ∃ U, RT w0 w' g q L k ws U) _ from (HE.out.below HX.out.below).any)
    refine Turns.rest (late_done (by kernel_rfl)) ?_
    refine any_tail 13 (by rfl) (by kernel_rfl) ?_
    simp only [List.drop_succ_cons, List.drop_zero]
    clear hS
    have HR := Lib.hid (HE.out.2.2.below HX.out.below)
    obtain ⟨Ag, cg, hag1, hag2⟩ := HE.out.age HX.out
    obtain ⟨b0, W, hb0, hW, hL⟩ := HX.out.named
    rw [hW] at hag1
    rw [hb0] at hag2
    have HAG := Lib.hid hag2
    have HAC := Lib.hid hag1
    simp only [hW] at HR ⊢
    first | simp only [hb0] | (have hb1 : w1.heap.size = b0 := hb0; simp only [hb1])
    have HL := Lib.hid hL
    clear hW hb0 HX HE hL hag1 hag2
    obtain ⟨At, ct, hT⟩ := HR.out.tbl
    have t3 := hT.cell 3
    have l0 := HL.out.cell 0
    have l1 := HL.out.cell 1
    clear hT
    go_wp2_with (go_at_call 51; refine (must_no _ _ (k : Int) _ HR.out.one).mono ?_; rintro e w4 ⟨rfl, hw4⟩; replace hw4 := hw4.symm; subst hw4)
    exact ⟨rfl, .inr ⟨6, rfl, rfl, HR.out.old⟩⟩
set_option maxRecDepth 100000 in
set_option maxHeartbeats 4000000 in
theorem leap_order (w0 w : World) (g q : Nat) (L ws : List ByteArray) (k : Nat) (T : TB) (b c : ByteArray) (h : RT w0 w g q L k [leapB, b, c] T) (hws : [leapB, b, c] = ws) (hbs : b.size ≤ 16384) (hcs : c.size ≤ 16384) (d n : Int) (hdb : dayOf b = some d) (hsc : stepOf c = some n) (h64 : ¬ 64 ≤ T.lp.length) (htk : takesB T.st T.lp d = false) :
    Calls Tryd.prog 49 #[.pointer (some ⟨g, 0, none⟩), .pointer (some ⟨q, 0, none⟩)] w (LinePost w0 g q L k ws (.error 12)) := by
  have hy := behind_yes w w0.heap.size g k L leapB [b, c] h.rd (by simp) (by simp)
  unfold leapB at hy
  have hy2 : Calls Tryd.prog 69 #[.pointer (some ⟨g, 0, none⟩), .string ⟨#[108, 101, 97, 112]⟩, .int .i64 2] w fun e w' => ∃ v, e = .returned v ∧ w' = w ∧ Wds w v [b, c] := hy
  have HR := Lib.hid h
  simp only [hws] at HR
  clear hy hws h
  have HDY := Lib.hid (fun W => day_yes W g b d hdb)
  clear hdb
  have HSY := Lib.hid (fun W => step_yes W g c n hsc (by unfold maxLen; omega))
  clear hsc
  have tf : decide ((T.lp.length : Int) < 64) = true := decide_eq_true (by omega)
  have tf2 : decide (T.lp.length < 64) = true := decide_eq_true (by omega)
  have tf3 : T.lp.length < 64 := by omega
  have HN := Lib.hid (show T.lp.length ≤ 1000 by omega)
  clear h64
  go_enter Tryd.func49, Tryd.ntmps49
  go_upto_region 1 with (go_at_call 69; refine hy2.mono ?_; rintro e w1 ⟨v, rfl, hw1, hv⟩; subst hw1; obtain ⟨bb, cc, rfl, hcc, q0, q1⟩ := hv.two; have HE := Lib.hid (show WR w0 bb g q b c L k ws T w1.drew from (show WR w0 bb g q b c L k ws T w1 from ⟨q0, q1, HR.out⟩).below (Below.refl _ _).drew); clear hv q0 q1)
  clear hy2 HR
  refine region_turns (fun (w' : World) => w'.cell? ⟨bb, 1, none⟩ = some (.string b) ∧ w'.cell? ⟨bb, 2, none⟩ = some (.string c) ∧ ∃ U, RT w0 w' g q L k ws U) (fun j => decide (13 ≤ j)) (by kernel_rfl) (HE.out.any) (fun hS => ?_)
  refine Turns.take hS 0 _ rfl (by kernel_rfl) (by kernel_rfl) (by kernel_rfl) (by kernel_rfl) (fun _ _ _ h => h) (by rfl) (fun w' hS' => by (try dsimp only at hS'); go_split_ands; go_simp; (try with_reducible rfl)) ?_
  simp only [Act.put, List.getElem_toArray, List.getElem_cons_succ, List.getElem_cons_zero, List.setIfInBounds_toArray, List.set_cons_zero, List.set_cons_succ]
  refine Turns.take hS 1 _ rfl (by kernel_rfl) (by kernel_rfl) (by kernel_rfl) (by kernel_rfl) (fun _ _ _ h => h) (by rfl) (fun w' hS' => by (try dsimp only at hS'); go_split_ands; go_simp; (try with_reducible rfl)) ?_
  simp only [Act.put, List.getElem_toArray, List.getElem_cons_succ, List.getElem_cons_zero, List.setIfInBounds_toArray, List.set_cons_zero, List.set_cons_succ]
  refine Turns.take hS 2 _ rfl (by kernel_rfl) (by kernel_rfl) (by kernel_rfl) (by kernel_rfl) (fun _ _ _ h => h) (by rfl) (fun w' hS' => by (try dsimp only at hS'); go_split_ands; go_simp; (try with_reducible rfl)) ?_
  simp only [Act.put, List.getElem_toArray, List.getElem_cons_succ, List.getElem_cons_zero, List.setIfInBounds_toArray, List.set_cons_zero, List.set_cons_succ]
  refine Turns.take hS 3 _ rfl (by kernel_rfl) (by kernel_rfl) (by kernel_rfl) (by kernel_rfl) (fun _ _ _ h => h) (by rfl) (fun w' hS' => by (try dsimp only at hS'); go_split_ands; go_simp; (try with_reducible rfl)) ?_
  simp only [Act.put, List.getElem_toArray, List.getElem_cons_succ, List.getElem_cons_zero, List.setIfInBounds_toArray, List.set_cons_zero, List.set_cons_succ]
  refine Turns.take hS 5 _ rfl (by kernel_rfl) (by kernel_rfl) (by kernel_rfl) (by kernel_rfl) (fun _ _ _ h => h) (by rfl) (fun w' hS' => by (try dsimp only at hS'); go_split_ands; go_simp; (try with_reducible rfl)) ?_
  simp only [Act.put, List.getElem_toArray, List.getElem_cons_succ, List.getElem_cons_zero, List.setIfInBounds_toArray, List.set_cons_zero, List.set_cons_succ]
  refine Turns.take hS 6 _ rfl (by kernel_rfl) (by kernel_rfl) (by kernel_rfl) (by kernel_rfl) (fun _ _ _ h => h) (by rfl) (fun w' hS' => by (try dsimp only at hS'); go_split_ands; go_simp; (try with_reducible rfl)) ?_
  simp only [Act.put, List.getElem_toArray, List.getElem_cons_succ, List.getElem_cons_zero, List.setIfInBounds_toArray, List.set_cons_zero, List.set_cons_succ]
  refine Turns.take hS 7 _ rfl (by kernel_rfl) (by kernel_rfl) (by kernel_rfl) (by kernel_rfl) (fun _ _ _ h => h) (by rfl) (fun w' hS' => by (try dsimp only at hS'); go_split_ands; go_simp; (try with_reducible rfl)) ?_
  simp only [Act.put, List.getElem_toArray, List.getElem_cons_succ, List.getElem_cons_zero, List.setIfInBounds_toArray, List.set_cons_zero, List.set_cons_succ]
  refine Turns.take hS 8 _ rfl (by kernel_rfl) (by kernel_rfl) (by kernel_rfl) (by kernel_rfl) (fun _ _ _ h => h) (by rfl) (fun w' hS' => by (try dsimp only at hS'); go_split_ands; go_simp; (try with_reducible rfl)) ?_
  simp only [Act.put, List.getElem_toArray, List.getElem_cons_succ, List.getElem_cons_zero, List.setIfInBounds_toArray, List.set_cons_zero, List.set_cons_succ]
  refine Turns.either 4 11 rfl rfl (by kernel_rfl) (by rfl) (by rfl) (fun K hK => ?_) (fun K hK => ?_)
  · go_simp
    go_at_call 70
    refine (HDY.out _).mono ?_
    rintro e w2 ⟨rfl, hb2⟩
    replace HE := Lib.hid (HE.out.below hb2)
    refine hK.out _ _ (show (fun (w' : World) => w'.cell? ⟨bb, 1, none⟩ = some (.string b) ∧ w'.cell? ⟨bb, 2, none⟩ = some (.string c) ∧ ∃ U, RT w0 w' g q L k ws U) _ from HE.out.any) ?_
    clear hK K hS
    have hS := (show (fun (w' : World) => w'.cell? ⟨bb, 1, none⟩ = some (.string b) ∧ w'.cell? ⟨bb, 2, none⟩ = some (.string c) ∧ ∃ U, RT w0 w' g q L k ws U) _ from HE.out.any)
    refine Turns.either 9 11 rfl rfl (by kernel_rfl) (by rfl) (by rfl) (fun K hK => ?_) (fun K hK => ?_)
    · go_simp
      go_at_call 72
      refine (HSY.out _).mono ?_
      rintro e w3 ⟨rfl, hb3⟩
      replace HE := Lib.hid (HE.out.below hb3)
      refine hK.out _ _ (show (fun (w' : World) => w'.cell? ⟨bb, 1, none⟩ = some (.string b) ∧ w'.cell? ⟨bb, 2, none⟩ = some (.string c) ∧ ∃ U, RT w0 w' g q L k ws U) _ from HE.out.any) ?_
      clear hK K hS
      have hS := (show (fun (w' : World) => w'.cell? ⟨bb, 1, none⟩ = some (.string b) ∧ w'.cell? ⟨bb, 2, none⟩ = some (.string c) ∧ ∃ U, RT w0 w' g q L k ws U) _ from HE.out.any)
      refine Turns.take hS 10 _ rfl (by kernel_rfl) (by kernel_rfl) (by kernel_rfl) (by kernel_rfl) (fun _ _ _ h => h) (by rfl) (fun w' hS' => by (try dsimp only at hS'); go_split_ands; go_simp; (try with_reducible rfl)) ?_
      simp only [Act.put, List.getElem_toArray, List.getElem_cons_succ, List.getElem_cons_zero, List.setIfInBounds_toArray, List.set_cons_zero, List.set_cons_succ]
      refine Turns.next 11 rfl (by kernel_rfl) (by rfl) (fun K hK => ?_)
      go_simp
      have HX := Lib.hid (HE.out.box 51 #[.int .i64 0, .int .i64 0])
      refine hK.out _ _ (show (fun (w' : World) => w'.cell? ⟨bb, 1, none⟩ = some (.string b) ∧ w'.cell? ⟨bb, 2, none⟩ = some (.string c) ∧ ∃ U, RT w0 w' g q L k ws U) _ from (HE.out.below HX.out.below).any) ?_
      clear hK K hS
      have hS := (show (fun (w' : World) => w'.cell? ⟨bb, 1, none⟩ = some (.string b) ∧ w'.cell? ⟨bb, 2, none⟩ = some (.string c) ∧ ∃ U, RT w0 w' g q L k ws U) _ from (HE.out.below HX.out.below).any)
      refine Turns.next 12 rfl (by kernel_rfl) (by rfl) (fun K hK => ?_)
      have hH := HX.out.holds
      replace HX := Lib.hid (HX.out.all #[.int .i64 d, .int .i64 n])
      simp only [List.getElem_toArray, List.getElem_cons_succ, List.getElem_cons_zero]
      refine wp_store_at 51 (.tmp 5) (.tmp 18) rfl _ 0 [.int .i64 d, .int .i64 n] ?hx ?hy 51 [.int .i64 0, .int .i64 0] hH pair_info (Nat.le_refl 2) (by simp [Value.oneCell']) ?_
      case hx => first | rfl | simp [Act.eval, Act.put]
      case hy => first | rfl | simp [Act.eval, Act.put]
      rw [splice_pair]
      clear hH
      refine hK.out _ _ (show (fun (w' : World) => w'.cell? ⟨bb, 1, none⟩ = some (.string b) ∧ w'.cell? ⟨bb, 2, none⟩ = some (.string c) ∧ ∃ U, RT w0 w' g q L k ws U) _ from (HE.out.below HX.out.below).any) ?_
      clear hK K hS
      have hS := (show (fun (w' : World) => w'.cell? ⟨bb, 1, none⟩ = some (.string b) ∧ w'.cell? ⟨bb, 2, none⟩ = some (.string c) ∧ ∃ U, RT w0 w' g q L k ws U) _ from (HE.out.below HX.out.below).any)
      refine Turns.rest (late_done (by kernel_rfl)) ?_
      refine any_tail 13 (by rfl) (by kernel_rfl) ?_
      simp only [List.drop_succ_cons, List.drop_zero]
      clear hS
      have HR := Lib.hid (HE.out.2.2.below HX.out.below)
      obtain ⟨Ag, cg, hag1, hag2⟩ := HE.out.age HX.out
      obtain ⟨b0, W, hb0, hW, hL⟩ := HX.out.named
      rw [hW] at hag1
      rw [hb0] at hag2
      have HAG := Lib.hid hag2
      have HAC := Lib.hid hag1
      simp only [hW] at HR ⊢
      first | simp only [hb0] | (have hb1 : w1.heap.size = b0 := hb0; simp only [hb1])
      have HL := Lib.hid hL
      clear hW hb0 HX HE hL hag1 hag2
      obtain ⟨At, ct, hT⟩ := HR.out.tbl
      have t3 := hT.cell 3
      have l0 := HL.out.cell 0
      have l1 := HL.out.cell 1
      clear hT
      have HTK := Lib.hid (takes_any _ _ q T d HR.out.tl HN.out)
      rw [htk] at HTK
      go_wp2_with (first
        | (go_at_call 51; with_reducible refine (must_yes _ _ _).mono ?_; rintro e w4 ⟨rfl, hw4⟩; replace hw4 := hw4.symm; subst hw4)
        | (go_at_call 37; refine HTK.out.mono ?_; rintro e w5 ⟨rfl, n5, hw5⟩; have HR5 := Lib.hid (HR.out.below (show Below W.heap.size W w5 by rw [hw5]; exact below_drewN (Below.refl _ _) _)); clear hw5)
        | (go_at_call 51; with_reducible refine (must_no _ _ (k : Int) _ HR5.out.one).mono ?_; rintro e w6 ⟨rfl, hw6⟩; subst hw6))
      exact ⟨rfl, .inr ⟨12, rfl, rfl, HR5.out.old⟩⟩
    · go_simp
      have HX := Lib.hid (HE.out.box 51 #[.int .i64 0, .int .i64 0])
      refine hK.out _ _ (show (fun (w' : World) => w'.cell? ⟨bb, 1, none⟩ = some (.string b) ∧ w'.cell? ⟨bb, 2, none⟩ = some (.string c) ∧ ∃ U, RT w0 w' g q L k ws U) _ from (HE.out.below HX.out.below).any) ?_
      clear hK K hS
      have hS := (show (fun (w' : World) => w'.cell? ⟨bb, 1, none⟩ = some (.string b) ∧ w'.cell? ⟨bb, 2, none⟩ = some (.string c) ∧ ∃ U, RT w0 w' g q L k ws U) _ from (HE.out.below HX.out.below).any)
      refine Turns.next 9 rfl (by kernel_rfl) (by rfl) (fun K hK => ?_)
      go_simp
      go_at_call 72
      refine (HSY.out _).mono ?_
      rintro e w3 ⟨rfl, hb3⟩
      replace HX := Lib.hid (HX.out.next hb3)
      refine hK.out _ _ (show (fun (w' : World) => w'.cell? ⟨bb, 1, none⟩ = some (.string b) ∧ w'.cell? ⟨bb, 2, none⟩ = some (.string c) ∧ ∃ U, RT w0 w' g q L k ws U) _ from (HE.out.below HX.out.below).any) ?_
      clear hK K hS
      have hS := (show (fun (w' : World) => w'.cell? ⟨bb, 1, none⟩ = some (.string b) ∧ w'.cell? ⟨bb, 2, none⟩ = some (.string c) ∧ ∃ U, RT w0 w' g q L k ws U) _ from (HE.out.below HX.out.below).any)
      refine Turns.take hS 10 _ rfl (by kernel_rfl) (by kernel_rfl) (by kernel_rfl) (by kernel_rfl) (fun _ _ _ h => h) (by rfl) (fun w' hS' => by (try dsimp only at hS'); go_split_ands; go_simp; (try with_reducible rfl)) ?_
      simp only [Act.put, List.getElem_toArray, List.getElem_cons_succ, List.getElem_cons_zero, List.setIfInBounds_toArray, List.set_cons_zero, List.set_cons_succ]
      refine Turns.next 12 rfl (by kernel_rfl) (by rfl) (fun K hK => ?_)
      have hH := HX.out.holds
      replace HX := Lib.hid (HX.out.all #[.int .i64 d, .int .i64 n])
      simp only [List.getElem_toArray, List.getElem_cons_succ, List.getElem_cons_zero]
      refine wp_store_at 51 (.tmp 5) (.tmp 18) rfl _ 0 [.int .i64 d, .int .i64 n] ?hx ?hy 51 [.int .i64 0, .int .i64 0] hH pair_info (Nat.le_refl 2) (by simp [Value.oneCell']) ?_
      case hx => first | rfl | simp [Act.eval, Act.put]
      case hy => first | rfl | simp [Act.eval, Act.put]
      rw [splice_pair]
      clear hH
      refine hK.out _ _ (show (fun (w' : World) => w'.cell? ⟨bb, 1, none⟩ = some (.string b) ∧ w'.cell? ⟨bb, 2, none⟩ = some (.string c) ∧ ∃ U, RT w0 w' g q L k ws U) _ from (HE.out.below HX.out.below).any) ?_
      clear hK K hS
      have hS := (show (fun (w' : World) => w'.cell? ⟨bb, 1, none⟩ = some (.string b) ∧ w'.cell? ⟨bb, 2, none⟩ = some (.string c) ∧ ∃ U, RT w0 w' g q L k ws U) _ from (HE.out.below HX.out.below).any)
      refine Turns.rest (late_done (by kernel_rfl)) ?_
      refine any_tail 13 (by rfl) (by kernel_rfl) ?_
      simp only [List.drop_succ_cons, List.drop_zero]
      clear hS
      have HR := Lib.hid (HE.out.2.2.below HX.out.below)
      obtain ⟨Ag, cg, hag1, hag2⟩ := HE.out.age HX.out
      obtain ⟨b0, W, hb0, hW, hL⟩ := HX.out.named
      rw [hW] at hag1
      rw [hb0] at hag2
      have HAG := Lib.hid hag2
      have HAC := Lib.hid hag1
      simp only [hW] at HR ⊢
      first | simp only [hb0] | (have hb1 : w1.heap.size = b0 := hb0; simp only [hb1])
      have HL := Lib.hid hL
      clear hW hb0 HX HE hL hag1 hag2
      obtain ⟨At, ct, hT⟩ := HR.out.tbl
      have t3 := hT.cell 3
      have l0 := HL.out.cell 0
      have l1 := HL.out.cell 1
      clear hT
      have HTK := Lib.hid (takes_any _ _ q T d HR.out.tl HN.out)
      rw [htk] at HTK
      go_wp2_with (first
        | (go_at_call 51; with_reducible refine (must_yes _ _ _).mono ?_; rintro e w4 ⟨rfl, hw4⟩; replace hw4 := hw4.symm; subst hw4)
        | (go_at_call 37; refine HTK.out.mono ?_; rintro e w5 ⟨rfl, n5, hw5⟩; have HR5 := Lib.hid (HR.out.below (show Below W.heap.size W w5 by rw [hw5]; exact below_drewN (Below.refl _ _) _)); clear hw5)
        | (go_at_call 51; with_reducible refine (must_no _ _ (k : Int) _ HR5.out.one).mono ?_; rintro e w6 ⟨rfl, hw6⟩; subst hw6))
      exact ⟨rfl, .inr ⟨12, rfl, rfl, HR5.out.old⟩⟩
  · go_simp
    have HX := Lib.hid (HE.out.box 51 #[.int .i64 0, .int .i64 0])
    refine hK.out _ _ (show (fun (w' : World) => w'.cell? ⟨bb, 1, none⟩ = some (.string b) ∧ w'.cell? ⟨bb, 2, none⟩ = some (.string c) ∧ ∃ U, RT w0 w' g q L k ws U) _ from (HE.out.below HX.out.below).any) ?_
    clear hK K hS
    have hS := (show (fun (w' : World) => w'.cell? ⟨bb, 1, none⟩ = some (.string b) ∧ w'.cell? ⟨bb, 2, none⟩ = some (.string c) ∧ ∃ U, RT w0 w' g q L k ws U) _ from (HE.out.below HX.out.below).any)
    refine Turns.next 4 rfl (by kernel_rfl) (by rfl) (fun K hK => ?_)
    go_simp
    go_at_call 70
    refine (HDY.out _).mono ?_
    rintro e w2 ⟨rfl, hb2⟩
    replace HX := Lib.hid (HX.out.next hb2)
    refine hK.out _ _ (show (fun (w' : World) => w'.cell? ⟨bb, 1, none⟩ = some (.string b) ∧ w'.cell? ⟨bb, 2, none⟩ = some (.string c) ∧ ∃ U, RT w0 w' g q L k ws U) _ from (HE.out.below HX.out.below).any) ?_
    clear hK K hS
    have hS := (show (fun (w' : World) => w'.cell? ⟨bb, 1, none⟩ = some (.string b) ∧ w'.cell? ⟨bb, 2, none⟩ = some (.string c) ∧ ∃ U, RT w0 w' g q L k ws U) _ from (HE.out.below HX.out.below).any)
    refine Turns.next 9 rfl (by kernel_rfl) (by rfl) (fun K hK => ?_)
    go_simp
    go_at_call 72
    refine (HSY.out _).mono ?_
    rintro e w3 ⟨rfl, hb3⟩
    replace HX := Lib.hid (HX.out.next hb3)
    refine hK.out _ _ (show (fun (w' : World) => w'.cell? ⟨bb, 1, none⟩ = some (.string b) ∧ w'.cell? ⟨bb, 2, none⟩ = some (.string c) ∧ ∃ U, RT w0 w' g q L k ws U) _ from (HE.out.below HX.out.below).any) ?_
    clear hK K hS
    have hS := (show (fun (w' : World) => w'.cell? ⟨bb, 1, none⟩ = some (.string b) ∧ w'.cell? ⟨bb, 2, none⟩ = some (.string c) ∧ ∃ U, RT w0 w' g q L k ws U) _ from (HE.out.below HX.out.below).any)
    refine Turns.take hS 10 _ rfl (by kernel_rfl) (by kernel_rfl) (by kernel_rfl) (by kernel_rfl) (fun _ _ _ h => h) (by rfl) (fun w' hS' => by (try dsimp only at hS'); go_split_ands; go_simp; (try with_reducible rfl)) ?_
    simp only [Act.put, List.getElem_toArray, List.getElem_cons_succ, List.getElem_cons_zero, List.setIfInBounds_toArray, List.set_cons_zero, List.set_cons_succ]
    refine Turns.next 12 rfl (by kernel_rfl) (by rfl) (fun K hK => ?_)
    have hH := HX.out.holds
    replace HX := Lib.hid (HX.out.all #[.int .i64 d, .int .i64 n])
    simp only [List.getElem_toArray, List.getElem_cons_succ, List.getElem_cons_zero]
    refine wp_store_at 51 (.tmp 5) (.tmp 18) rfl _ 0 [.int .i64 d, .int .i64 n] ?hx ?hy 51 [.int .i64 0, .int .i64 0] hH pair_info (Nat.le_refl 2) (by simp [Value.oneCell']) ?_
    case hx => first | rfl | simp [Act.eval, Act.put]
    case hy => first | rfl | simp [Act.eval, Act.put]
    rw [splice_pair]
    clear hH
    refine hK.out _ _ (show (fun (w' : World) => w'.cell? ⟨bb, 1, none⟩ = some (.string b) ∧ w'.cell? ⟨bb, 2, none⟩ = some (.string c) ∧ ∃ U, RT w0 w' g q L k ws U) _ from (HE.out.below HX.out.below).any) ?_
    clear hK K hS
    have hS := (show (fun (w' : World) => w'.cell? ⟨bb, 1, none⟩ = some (.string b) ∧ w'.cell? ⟨bb, 2, none⟩ = some (.string c) ∧ ∃ U, RT w0 w' g q L k ws U) _ from (HE.out.below HX.out.below).any)
    refine Turns.rest (late_done (by kernel_rfl)) ?_
    refine any_tail 13 (by rfl) (by kernel_rfl) ?_
    simp only [List.drop_succ_cons, List.drop_zero]
    clear hS
    have HR := Lib.hid (HE.out.2.2.below HX.out.below)
    obtain ⟨Ag, cg, hag1, hag2⟩ := HE.out.age HX.out
    obtain ⟨b0, W, hb0, hW, hL⟩ := HX.out.named
    rw [hW] at hag1
    rw [hb0] at hag2
    have HAG := Lib.hid hag2
    have HAC := Lib.hid hag1
    simp only [hW] at HR ⊢
    first | simp only [hb0] | (have hb1 : w1.heap.size = b0 := hb0; simp only [hb1])
    have HL := Lib.hid hL
    clear hW hb0 HX HE hL hag1 hag2
    obtain ⟨At, ct, hT⟩ := HR.out.tbl
    have t3 := hT.cell 3
    have l0 := HL.out.cell 0
    have l1 := HL.out.cell 1
    clear hT
    have HTK := Lib.hid (takes_any _ _ q T d HR.out.tl HN.out)
    rw [htk] at HTK
    go_wp2_with (first
      | (go_at_call 51; with_reducible refine (must_yes _ _ _).mono ?_; rintro e w4 ⟨rfl, hw4⟩; replace hw4 := hw4.symm; subst hw4)
      | (go_at_call 37; refine HTK.out.mono ?_; rintro e w5 ⟨rfl, n5, hw5⟩; have HR5 := Lib.hid (HR.out.below (show Below W.heap.size W w5 by rw [hw5]; exact below_drewN (Below.refl _ _) _)); clear hw5)
      | (go_at_call 51; with_reducible refine (must_no _ _ (k : Int) _ HR5.out.one).mono ?_; rintro e w6 ⟨rfl, hw6⟩; subst hw6))
    exact ⟨rfl, .inr ⟨12, rfl, rfl, HR5.out.old⟩⟩
set_option maxRecDepth 100000 in
set_option maxHeartbeats 4000000 in
theorem leap_ok (w0 w : World) (g q : Nat) (L ws : List ByteArray) (k : Nat) (T : TB) (b c : ByteArray) (h : RT w0 w g q L k [leapB, b, c] T) (hws : [leapB, b, c] = ws) (hbs : b.size ≤ 16384) (hcs : c.size ≤ 16384) (d n : Int) (hdb : dayOf b = some d) (hsc : stepOf c = some n) (h64 : ¬ 64 ≤ T.lp.length) (htk : takesB T.st T.lp d = true) :
    Calls Tryd.prog 49 #[.pointer (some ⟨g, 0, none⟩), .pointer (some ⟨q, 0, none⟩)] w (LinePost w0 g q L k ws (.ok ⟨T.st, T.ah, T.en, T.lp ++ [(d, n)]⟩)) := by
  have hy := behind_yes w w0.heap.size g k L leapB [b, c] h.rd (by simp) (by simp)
  unfold leapB at hy
  have hy2 : Calls Tryd.prog 69 #[.pointer (some ⟨g, 0, none⟩), .string ⟨#[108, 101, 97, 112]⟩, .int .i64 2] w fun e w' => ∃ v, e = .returned v ∧ w' = w ∧ Wds w v [b, c] := hy
  have HR := Lib.hid h
  simp only [hws] at HR
  clear hy hws h
  have HDY := Lib.hid (fun W => day_yes W g b d hdb)
  clear hdb
  have HSY := Lib.hid (fun W => step_yes W g c n hsc (by unfold maxLen; omega))
  clear hsc
  have tf : decide ((T.lp.length : Int) < 64) = true := decide_eq_true (by omega)
  have tf2 : decide (T.lp.length < 64) = true := decide_eq_true (by omega)
  have tf3 : T.lp.length < 64 := by omega
  have HN := Lib.hid (show T.lp.length ≤ 1000 by omega)
  clear h64
  go_enter Tryd.func49, Tryd.ntmps49
  go_upto_region 1 with (go_at_call 69; refine hy2.mono ?_; rintro e w1 ⟨v, rfl, hw1, hv⟩; subst hw1; obtain ⟨bb, cc, rfl, hcc, q0, q1⟩ := hv.two; have HE := Lib.hid (show WR w0 bb g q b c L k ws T w1.drew from (show WR w0 bb g q b c L k ws T w1 from ⟨q0, q1, HR.out⟩).below (Below.refl _ _).drew); clear hv q0 q1)
  clear hy2 HR
  refine region_turns (fun (w' : World) => w'.cell? ⟨bb, 1, none⟩ = some (.string b) ∧ w'.cell? ⟨bb, 2, none⟩ = some (.string c) ∧ ∃ U, RT w0 w' g q L k ws U) (fun j => decide (13 ≤ j)) (by kernel_rfl) (HE.out.any) (fun hS => ?_)
  refine Turns.take hS 0 _ rfl (by kernel_rfl) (by kernel_rfl) (by kernel_rfl) (by kernel_rfl) (fun _ _ _ h => h) (by rfl) (fun w' hS' => by (try dsimp only at hS'); go_split_ands; go_simp; (try with_reducible rfl)) ?_
  simp only [Act.put, List.getElem_toArray, List.getElem_cons_succ, List.getElem_cons_zero, List.setIfInBounds_toArray, List.set_cons_zero, List.set_cons_succ]
  refine Turns.take hS 1 _ rfl (by kernel_rfl) (by kernel_rfl) (by kernel_rfl) (by kernel_rfl) (fun _ _ _ h => h) (by rfl) (fun w' hS' => by (try dsimp only at hS'); go_split_ands; go_simp; (try with_reducible rfl)) ?_
  simp only [Act.put, List.getElem_toArray, List.getElem_cons_succ, List.getElem_cons_zero, List.setIfInBounds_toArray, List.set_cons_zero, List.set_cons_succ]
  refine Turns.take hS 2 _ rfl (by kernel_rfl) (by kernel_rfl) (by kernel_rfl) (by kernel_rfl) (fun _ _ _ h => h) (by rfl) (fun w' hS' => by (try dsimp only at hS'); go_split_ands; go_simp; (try with_reducible rfl)) ?_
  simp only [Act.put, List.getElem_toArray, List.getElem_cons_succ, List.getElem_cons_zero, List.setIfInBounds_toArray, List.set_cons_zero, List.set_cons_succ]
  refine Turns.take hS 3 _ rfl (by kernel_rfl) (by kernel_rfl) (by kernel_rfl) (by kernel_rfl) (fun _ _ _ h => h) (by rfl) (fun w' hS' => by (try dsimp only at hS'); go_split_ands; go_simp; (try with_reducible rfl)) ?_
  simp only [Act.put, List.getElem_toArray, List.getElem_cons_succ, List.getElem_cons_zero, List.setIfInBounds_toArray, List.set_cons_zero, List.set_cons_succ]
  refine Turns.take hS 5 _ rfl (by kernel_rfl) (by kernel_rfl) (by kernel_rfl) (by kernel_rfl) (fun _ _ _ h => h) (by rfl) (fun w' hS' => by (try dsimp only at hS'); go_split_ands; go_simp; (try with_reducible rfl)) ?_
  simp only [Act.put, List.getElem_toArray, List.getElem_cons_succ, List.getElem_cons_zero, List.setIfInBounds_toArray, List.set_cons_zero, List.set_cons_succ]
  refine Turns.take hS 6 _ rfl (by kernel_rfl) (by kernel_rfl) (by kernel_rfl) (by kernel_rfl) (fun _ _ _ h => h) (by rfl) (fun w' hS' => by (try dsimp only at hS'); go_split_ands; go_simp; (try with_reducible rfl)) ?_
  simp only [Act.put, List.getElem_toArray, List.getElem_cons_succ, List.getElem_cons_zero, List.setIfInBounds_toArray, List.set_cons_zero, List.set_cons_succ]
  refine Turns.take hS 7 _ rfl (by kernel_rfl) (by kernel_rfl) (by kernel_rfl) (by kernel_rfl) (fun _ _ _ h => h) (by rfl) (fun w' hS' => by (try dsimp only at hS'); go_split_ands; go_simp; (try with_reducible rfl)) ?_
  simp only [Act.put, List.getElem_toArray, List.getElem_cons_succ, List.getElem_cons_zero, List.setIfInBounds_toArray, List.set_cons_zero, List.set_cons_succ]
  refine Turns.take hS 8 _ rfl (by kernel_rfl) (by kernel_rfl) (by kernel_rfl) (by kernel_rfl) (fun _ _ _ h => h) (by rfl) (fun w' hS' => by (try dsimp only at hS'); go_split_ands; go_simp; (try with_reducible rfl)) ?_
  simp only [Act.put, List.getElem_toArray, List.getElem_cons_succ, List.getElem_cons_zero, List.setIfInBounds_toArray, List.set_cons_zero, List.set_cons_succ]
  refine Turns.either 4 11 rfl rfl (by kernel_rfl) (by rfl) (by rfl) (fun K hK => ?_) (fun K hK => ?_)
  · go_simp
    go_at_call 70
    refine (HDY.out _).mono ?_
    rintro e w2 ⟨rfl, hb2⟩
    replace HE := Lib.hid (HE.out.below hb2)
    refine hK.out _ _ (show (fun (w' : World) => w'.cell? ⟨bb, 1, none⟩ = some (.string b) ∧ w'.cell? ⟨bb, 2, none⟩ = some (.string c) ∧ ∃ U, RT w0 w' g q L k ws U) _ from HE.out.any) ?_
    clear hK K hS
    have hS := (show (fun (w' : World) => w'.cell? ⟨bb, 1, none⟩ = some (.string b) ∧ w'.cell? ⟨bb, 2, none⟩ = some (.string c) ∧ ∃ U, RT w0 w' g q L k ws U) _ from HE.out.any)
    refine Turns.either 9 11 rfl rfl (by kernel_rfl) (by rfl) (by rfl) (fun K hK => ?_) (fun K hK => ?_)
    · go_simp
      go_at_call 72
      refine (HSY.out _).mono ?_
      rintro e w3 ⟨rfl, hb3⟩
      replace HE := Lib.hid (HE.out.below hb3)
      refine hK.out _ _ (show (fun (w' : World) => w'.cell? ⟨bb, 1, none⟩ = some (.string b) ∧ w'.cell? ⟨bb, 2, none⟩ = some (.string c) ∧ ∃ U, RT w0 w' g q L k ws U) _ from HE.out.any) ?_
      clear hK K hS
      have hS := (show (fun (w' : World) => w'.cell? ⟨bb, 1, none⟩ = some (.string b) ∧ w'.cell? ⟨bb, 2, none⟩ = some (.string c) ∧ ∃ U, RT w0 w' g q L k ws U) _ from HE.out.any)
      refine Turns.take hS 10 _ rfl (by kernel_rfl) (by kernel_rfl) (by kernel_rfl) (by kernel_rfl) (fun _ _ _ h => h) (by rfl) (fun w' hS' => by (try dsimp only at hS'); go_split_ands; go_simp; (try with_reducible rfl)) ?_
      simp only [Act.put, List.getElem_toArray, List.getElem_cons_succ, List.getElem_cons_zero, List.setIfInBounds_toArray, List.set_cons_zero, List.set_cons_succ]
      refine Turns.next 11 rfl (by kernel_rfl) (by rfl) (fun K hK => ?_)
      go_simp
      have HX := Lib.hid (HE.out.box 51 #[.int .i64 0, .int .i64 0])
      refine hK.out _ _ (show (fun (w' : World) => w'.cell? ⟨bb, 1, none⟩ = some (.string b) ∧ w'.cell? ⟨bb, 2, none⟩ = some (.string c) ∧ ∃ U, RT w0 w' g q L k ws U) _ from (HE.out.below HX.out.below).any) ?_
      clear hK K hS
      have hS := (show (fun (w' : World) => w'.cell? ⟨bb, 1, none⟩ = some (.string b) ∧ w'.cell? ⟨bb, 2, none⟩ = some (.string c) ∧ ∃ U, RT w0 w' g q L k ws U) _ from (HE.out.below HX.out.below).any)
      refine Turns.next 12 rfl (by kernel_rfl) (by rfl) (fun K hK => ?_)
      have hH := HX.out.holds
      replace HX := Lib.hid (HX.out.all #[.int .i64 d, .int .i64 n])
      simp only [List.getElem_toArray, List.getElem_cons_succ, List.getElem_cons_zero]
      refine wp_store_at 51 (.tmp 5) (.tmp 18) rfl _ 0 [.int .i64 d, .int .i64 n] ?hx ?hy 51 [.int .i64 0, .int .i64 0] hH pair_info (Nat.le_refl 2) (by simp [Value.oneCell']) ?_
      case hx => first | rfl | simp [Act.eval, Act.put]
      case hy => first | rfl | simp [Act.eval, Act.put]
      rw [splice_pair]
      clear hH
      refine hK.out _ _ (show (fun (w' : World) => w'.cell? ⟨bb, 1, none⟩ = some (.string b) ∧ w'.cell? ⟨bb, 2, none⟩ = some (.string c) ∧ ∃ U, RT w0 w' g q L k ws U) _ from (HE.out.below HX.out.below).any) ?_
      clear hK K hS
      have hS := (show (fun (w' : World) => w'.cell? ⟨bb, 1, none⟩ = some (.string b) ∧ w'.cell? ⟨bb, 2, none⟩ = some (.string c) ∧ ∃ U, RT w0 w' g q L k ws U) _ from (HE.out.below HX.out.below).any)
      refine Turns.rest (late_done (by kernel_rfl)) ?_
      refine any_tail 13 (by rfl) (by kernel_rfl) ?_
      simp only [List.drop_succ_cons, List.drop_zero]
      clear hS
      have HR := Lib.hid (HE.out.2.2.below HX.out.below)
      obtain ⟨Ag, cg, hag1, hag2⟩ := HE.out.age HX.out
      obtain ⟨b0, W, hb0, hW, hL⟩ := HX.out.named
      rw [hW] at hag1
      rw [hb0] at hag2
      have HAG := Lib.hid hag2
      have HAC := Lib.hid hag1
      simp only [hW] at HR ⊢
      first | simp only [hb0] | (have hb1 : w1.heap.size = b0 := hb0; simp only [hb1])
      have HL := Lib.hid hL
      clear hW hb0 HX HE hL hag1 hag2
      obtain ⟨At, ct, hT⟩ := HR.out.tbl
      have t3 := hT.cell 3
      have l0 := HL.out.cell 0
      have l1 := HL.out.cell 1
      clear hT
      have HTK := Lib.hid (takes_any _ _ q T d HR.out.tl HN.out)
      rw [htk] at HTK
      go_upto_region 4 with (first
        | (go_at_call 51; with_reducible refine (must_yes _ _ _).mono ?_; rintro e w4 ⟨rfl, hw4⟩; replace hw4 := hw4.symm; subst hw4)
        | (go_at_call 37; refine HTK.out.mono ?_; rintro e w5 ⟨rfl, n5, hw5⟩; have hb5 := (show Below W.heap.size W w5 by rw [hw5]; exact below_drewN (Below.refl _ _) _); have HB5 := Lib.hid hb5; clear hw5 hb5))
      have HR5 := Lib.hid ((HR.out.below HB5.out).below (Below.refl _ _).drew)
      have HL5 := Lib.hid (show Holds w5.drew b0 51 #[.int .i64 d, .int .i64 n] from HL.out.below HB5.out.drew HL.out.lt)
      have HS5 := Lib.hid (show w5.drew.cell? ⟨q, 3, none⟩ = some (.slice Ag T.lp.length cg) ∧ w5.drew.cell? ⟨b0, 0, none⟩ = some (.int .i64 d) ∧ w5.drew.cell? ⟨b0, 1, none⟩ = some (.int .i64 n) from ⟨(HB5.out.drew.cell (p := ⟨q, 3, none⟩) (block_lt HAC.out)).trans HAC.out, HL5.out.cell 0, HL5.out.cell 1⟩)
      clear HTK HR HL t3 l0 l1 tf
      refine region_turns (fun (w' : World) => w'.cell? ⟨q, 3, none⟩ = some (.slice Ag T.lp.length cg) ∧ w'.cell? ⟨b0, 0, none⟩ = some (.int .i64 d) ∧ w'.cell? ⟨b0, 1, none⟩ = some (.int .i64 n)) (fun j => decide (8 ≤ j)) (by kernel_rfl) (HS5.out) (fun hS => ?_)
      refine Turns.take hS 0 _ rfl (by kernel_rfl) (by kernel_rfl) (by kernel_rfl) (by kernel_rfl) (fun _ _ _ h => h) (by rfl) (fun w' hS' => by (try dsimp only at hS'); go_split_ands; go_simp; (try with_reducible rfl)) ?_
      simp only [Act.put, List.getElem_toArray, List.getElem_cons_succ, List.getElem_cons_zero, List.setIfInBounds_toArray, List.set_cons_zero, List.set_cons_succ]
      refine Turns.take hS 1 _ rfl (by kernel_rfl) (by kernel_rfl) (by kernel_rfl) (by kernel_rfl) (fun _ _ _ h => h) (by rfl) (fun w' hS' => by (try dsimp only at hS'); go_split_ands; go_simp; (try with_reducible rfl)) ?_
      simp only [Act.put, List.getElem_toArray, List.getElem_cons_succ, List.getElem_cons_zero, List.setIfInBounds_toArray, List.set_cons_zero, List.set_cons_succ]
      refine Turns.take hS 2 _ rfl (by kernel_rfl) (by kernel_rfl) (by kernel_rfl) (by kernel_rfl) (fun _ _ _ h => h) (by rfl) (fun w' hS' => by (try dsimp only at hS'); go_split_ands; go_simp; (try with_reducible rfl)) ?_
      simp only [Act.put, List.getElem_toArray, List.getElem_cons_succ, List.getElem_cons_zero, List.setIfInBounds_toArray, List.set_cons_zero, List.set_cons_succ]
      refine Turns.take hS 3 _ rfl (by kernel_rfl) (by kernel_rfl) (by kernel_rfl) (by kernel_rfl) (fun _ _ _ h => h) (by rfl) (fun w' hS' => by (try dsimp only at hS'); go_split_ands; go_simp; (try with_reducible rfl)) ?_
      simp only [Act.put, List.getElem_toArray, List.getElem_cons_succ, List.getElem_cons_zero, List.setIfInBounds_toArray, List.set_cons_zero, List.set_cons_succ]
      refine Turns.take hS 4 _ rfl (by kernel_rfl) (by kernel_rfl) (by kernel_rfl) (by kernel_rfl) (fun _ _ _ h => h) (by rfl) (fun w' hS' => by (try dsimp only at hS'); go_split_ands; go_simp; (try with_reducible rfl)) ?_
      simp only [Act.put, List.getElem_toArray, List.getElem_cons_succ, List.getElem_cons_zero, List.setIfInBounds_toArray, List.set_cons_zero, List.set_cons_succ]
      refine Turns.take hS 5 _ rfl (by kernel_rfl) (by kernel_rfl) (by kernel_rfl) (by kernel_rfl) (fun _ _ _ h => h) (by rfl) (fun w' hS' => by (try dsimp only at hS'); go_split_ands; go_simp; (try with_reducible rfl)) ?_
      simp only [Act.put, List.getElem_toArray, List.getElem_cons_succ, List.getElem_cons_zero, List.setIfInBounds_toArray, List.set_cons_zero, List.set_cons_succ]
      refine Turns.next 6 rfl (by kernel_rfl) (by rfl) (fun K hK => ?_)
      go_simp
      have hb6 := below_alloc w5.drew (.cells #[.int .i64 d, .int .i64 n] 51)
      have HR6 := Lib.hid (HR5.out.below hb6)
      have HN6 := Lib.hid (Holds.new w5.drew 51 #[.int .i64 d, .int .i64 n])
      obtain ⟨A6, c6, h6, hrest⟩ := HR6.out.push HN.out HN6.out
      have he6 := ((hb6.cell (p := ⟨q, 3, none⟩) (block_lt HS5.out.1)).trans HS5.out.1).symm.trans h6
      simp only [Option.some.injEq, Value.slice.injEq, true_and] at he6
      obtain ⟨rfl, rfl⟩ := he6
      have HRest := Lib.hid hrest
      have HS6 := Lib.hid (show _ ∧ _ ∧ _ from ⟨h6, (hb6.cell (p := ⟨b0, 0, none⟩) (block_lt HS5.out.2.1)).trans HS5.out.2.1, (hb6.cell (p := ⟨b0, 1, none⟩) (block_lt HS5.out.2.2)).trans HS5.out.2.2⟩)
      clear hrest h6 hb6
      refine hK.out _ _ (show (fun (w' : World) => w'.cell? ⟨q, 3, none⟩ = some (.slice Ag T.lp.length cg) ∧ w'.cell? ⟨b0, 0, none⟩ = some (.int .i64 d) ∧ w'.cell? ⟨b0, 1, none⟩ = some (.int .i64 n)) _ from HS6.out) ?_
      clear hK K hS
      have hS := (show (fun (w' : World) => w'.cell? ⟨q, 3, none⟩ = some (.slice Ag T.lp.length cg) ∧ w'.cell? ⟨b0, 0, none⟩ = some (.int .i64 d) ∧ w'.cell? ⟨b0, 1, none⟩ = some (.int .i64 n)) _ from HS6.out)
      refine Turns.next 7 rfl (by kernel_rfl) (by rfl) (fun K hK => ?_)
      obtain ⟨A7, c7, w7, hrun, k7, g7, hC7, hfin⟩ := HRest.out
      have hkb : ∀ o, w7.cell? ⟨b0, o, none⟩ = _ := fun o => hC7.cell (o := o) (block_lt HS6.out.2.1) (fun e => Nat.lt_irrefl _ (HAG.out b0 e))
      have HS7 := Lib.hid (show _ ∧ _ ∧ _ from ⟨k7, (hkb 0).trans HS6.out.2.1, (hkb 1).trans HS6.out.2.2⟩)
      have HFin := Lib.hid hfin
      have HG7 := Lib.hid g7
      clear hfin k7 g7 hC7 hkb
      refine Lib.wp_append_run_sl _ (.tmp 37) (.tmp 39) 48 rfl _ _ ?hs ?hx hrun ?_
      case hs => first | rfl | simp [Act.eval, Act.put]
      case hx => first | rfl | simp [Act.eval, Act.put]
      clear hrun
      refine hK.out _ _ (show (fun (w' : World) => w'.cell? ⟨q, 3, none⟩ = some (.slice Ag T.lp.length cg) ∧ w'.cell? ⟨b0, 0, none⟩ = some (.int .i64 d) ∧ w'.cell? ⟨b0, 1, none⟩ = some (.int .i64 n)) _ from HS7.out) ?_
      clear hK K hS
      have hS := (show (fun (w' : World) => w'.cell? ⟨q, 3, none⟩ = some (.slice Ag T.lp.length cg) ∧ w'.cell? ⟨b0, 0, none⟩ = some (.int .i64 d) ∧ w'.cell? ⟨b0, 1, none⟩ = some (.int .i64 n)) _ from HS7.out)
      refine Turns.rest (late_done (by kernel_rfl)) ?_
      refine any_tail 8 (by rfl) (by kernel_rfl) ?_
      simp only [List.drop_succ_cons, List.drop_zero]
      clear hS
      have k7 := HS7.out.1
      have g7 := HG7.out
      go_wp2
      go_end0
      exact .inl ⟨_, rfl, rfl, HFin.out⟩
    · go_simp
      have HX := Lib.hid (HE.out.box 51 #[.int .i64 0, .int .i64 0])
      refine hK.out _ _ (show (fun (w' : World) => w'.cell? ⟨bb, 1, none⟩ = some (.string b) ∧ w'.cell? ⟨bb, 2, none⟩ = some (.string c) ∧ ∃ U, RT w0 w' g q L k ws U) _ from (HE.out.below HX.out.below).any) ?_
      clear hK K hS
      have hS := (show (fun (w' : World) => w'.cell? ⟨bb, 1, none⟩ = some (.string b) ∧ w'.cell? ⟨bb, 2, none⟩ = some (.string c) ∧ ∃ U, RT w0 w' g q L k ws U) _ from (HE.out.below HX.out.below).any)
      refine Turns.next 9 rfl (by kernel_rfl) (by rfl) (fun K hK => ?_)
      go_simp
      go_at_call 72
      refine (HSY.out _).mono ?_
      rintro e w3 ⟨rfl, hb3⟩
      replace HX := Lib.hid (HX.out.next hb3)
      refine hK.out _ _ (show (fun (w' : World) => w'.cell? ⟨bb, 1, none⟩ = some (.string b) ∧ w'.cell? ⟨bb, 2, none⟩ = some (.string c) ∧ ∃ U, RT w0 w' g q L k ws U) _ from (HE.out.below HX.out.below).any) ?_
      clear hK K hS
      have hS := (show (fun (w' : World) => w'.cell? ⟨bb, 1, none⟩ = some (.string b) ∧ w'.cell? ⟨bb, 2, none⟩ = some (.string c) ∧ ∃ U, RT w0 w' g q L k ws U) _ from (HE.out.below HX.out.below).any)
      refine Turns.take hS 10 _ rfl (by kernel_rfl) (by kernel_rfl) (by kernel_rfl) (by kernel_rfl) (fun _ _ _ h => h) (by rfl) (fun w' hS' => by (try dsimp only at hS'); go_split_ands; go_simp; (try with_reducible rfl)) ?_
      simp only [Act.put, List.getElem_toArray, List.getElem_cons_succ, List.getElem_cons_zero, List.setIfInBounds_toArray, List.set_cons_zero, List.set_cons_succ]
      refine Turns.next 12 rfl (by kernel_rfl) (by rfl) (fun K hK => ?_)
      have hH := HX.out.holds
      replace HX := Lib.hid (HX.out.all #[.int .i64 d, .int .i64 n])
      simp only [List.getElem_toArray, List.getElem_cons_succ, List.getElem_cons_zero]
      refine wp_store_at 51 (.tmp 5) (.tmp 18) rfl _ 0 [.int .i64 d, .int .i64 n] ?hx ?hy 51 [.int .i64 0, .int .i64 0] hH pair_info (Nat.le_refl 2) (by simp [Value.oneCell']) ?_
      case hx => first | rfl | simp [Act.eval, Act.put]
      case hy => first | rfl | simp [Act.eval, Act.put]
      rw [splice_pair]
      clear hH
      refine hK.out _ _ (show (fun (w' : World) => w'.cell? ⟨bb, 1, none⟩ = some (.string b) ∧ w'.cell? ⟨bb, 2, none⟩ = some (.string c) ∧ ∃ U, RT w0 w' g q L k ws U) _ from (HE.out.below HX.out.below).any) ?_
      clear hK K hS
      have hS := (show (fun (w' : World) => w'.cell? ⟨bb, 1, none⟩ = some (.string b) ∧ w'.cell? ⟨bb, 2, none⟩ = some (.string c) ∧ ∃ U, RT w0 w' g q L k ws U) _ from (HE.out.below HX.out.below).any)
      refine Turns.rest (late_done (by kernel_rfl)) ?_
      refine any_tail 13 (by rfl) (by kernel_rfl) ?_
      simp only [List.drop_succ_cons, List.drop_zero]
      clear hS
      have HR := Lib.hid (HE.out.2.2.below HX.out.below)
      obtain ⟨Ag, cg, hag1, hag2⟩ := HE.out.age HX.out
      obtain ⟨b0, W, hb0, hW, hL⟩ := HX.out.named
      rw [hW] at hag1
      rw [hb0] at hag2
      have HAG := Lib.hid hag2
      have HAC := Lib.hid hag1
      simp only [hW] at HR ⊢
      first | simp only [hb0] | (have hb1 : w1.heap.size = b0 := hb0; simp only [hb1])
      have HL := Lib.hid hL
      clear hW hb0 HX HE hL hag1 hag2
      obtain ⟨At, ct, hT⟩ := HR.out.tbl
      have t3 := hT.cell 3
      have l0 := HL.out.cell 0
      have l1 := HL.out.cell 1
      clear hT
      have HTK := Lib.hid (takes_any _ _ q T d HR.out.tl HN.out)
      rw [htk] at HTK
      go_upto_region 4 with (first
        | (go_at_call 51; with_reducible refine (must_yes _ _ _).mono ?_; rintro e w4 ⟨rfl, hw4⟩; replace hw4 := hw4.symm; subst hw4)
        | (go_at_call 37; refine HTK.out.mono ?_; rintro e w5 ⟨rfl, n5, hw5⟩; have hb5 := (show Below W.heap.size W w5 by rw [hw5]; exact below_drewN (Below.refl _ _) _); have HB5 := Lib.hid hb5; clear hw5 hb5))
      have HR5 := Lib.hid ((HR.out.below HB5.out).below (Below.refl _ _).drew)
      have HL5 := Lib.hid (show Holds w5.drew b0 51 #[.int .i64 d, .int .i64 n] from HL.out.below HB5.out.drew HL.out.lt)
      have HS5 := Lib.hid (show w5.drew.cell? ⟨q, 3, none⟩ = some (.slice Ag T.lp.length cg) ∧ w5.drew.cell? ⟨b0, 0, none⟩ = some (.int .i64 d) ∧ w5.drew.cell? ⟨b0, 1, none⟩ = some (.int .i64 n) from ⟨(HB5.out.drew.cell (p := ⟨q, 3, none⟩) (block_lt HAC.out)).trans HAC.out, HL5.out.cell 0, HL5.out.cell 1⟩)
      clear HTK HR HL t3 l0 l1 tf
      refine region_turns (fun (w' : World) => w'.cell? ⟨q, 3, none⟩ = some (.slice Ag T.lp.length cg) ∧ w'.cell? ⟨b0, 0, none⟩ = some (.int .i64 d) ∧ w'.cell? ⟨b0, 1, none⟩ = some (.int .i64 n)) (fun j => decide (8 ≤ j)) (by kernel_rfl) (HS5.out) (fun hS => ?_)
      refine Turns.take hS 0 _ rfl (by kernel_rfl) (by kernel_rfl) (by kernel_rfl) (by kernel_rfl) (fun _ _ _ h => h) (by rfl) (fun w' hS' => by (try dsimp only at hS'); go_split_ands; go_simp; (try with_reducible rfl)) ?_
      simp only [Act.put, List.getElem_toArray, List.getElem_cons_succ, List.getElem_cons_zero, List.setIfInBounds_toArray, List.set_cons_zero, List.set_cons_succ]
      refine Turns.take hS 1 _ rfl (by kernel_rfl) (by kernel_rfl) (by kernel_rfl) (by kernel_rfl) (fun _ _ _ h => h) (by rfl) (fun w' hS' => by (try dsimp only at hS'); go_split_ands; go_simp; (try with_reducible rfl)) ?_
      simp only [Act.put, List.getElem_toArray, List.getElem_cons_succ, List.getElem_cons_zero, List.setIfInBounds_toArray, List.set_cons_zero, List.set_cons_succ]
      refine Turns.take hS 2 _ rfl (by kernel_rfl) (by kernel_rfl) (by kernel_rfl) (by kernel_rfl) (fun _ _ _ h => h) (by rfl) (fun w' hS' => by (try dsimp only at hS'); go_split_ands; go_simp; (try with_reducible rfl)) ?_
      simp only [Act.put, List.getElem_toArray, List.getElem_cons_succ, List.getElem_cons_zero, List.setIfInBounds_toArray, List.set_cons_zero, List.set_cons_succ]
      refine Turns.take hS 3 _ rfl (by kernel_rfl) (by kernel_rfl) (by kernel_rfl) (by kernel_rfl) (fun _ _ _ h => h) (by rfl) (fun w' hS' => by (try dsimp only at hS'); go_split_ands; go_simp; (try with_reducible rfl)) ?_
      simp only [Act.put, List.getElem_toArray, List.getElem_cons_succ, List.getElem_cons_zero, List.setIfInBounds_toArray, List.set_cons_zero, List.set_cons_succ]
      refine Turns.take hS 4 _ rfl (by kernel_rfl) (by kernel_rfl) (by kernel_rfl) (by kernel_rfl) (fun _ _ _ h => h) (by rfl) (fun w' hS' => by (try dsimp only at hS'); go_split_ands; go_simp; (try with_reducible rfl)) ?_
      simp only [Act.put, List.getElem_toArray, List.getElem_cons_succ, List.getElem_cons_zero, List.setIfInBounds_toArray, List.set_cons_zero, List.set_cons_succ]
      refine Turns.take hS 5 _ rfl (by kernel_rfl) (by kernel_rfl) (by kernel_rfl) (by kernel_rfl) (fun _ _ _ h => h) (by rfl) (fun w' hS' => by (try dsimp only at hS'); go_split_ands; go_simp; (try with_reducible rfl)) ?_
      simp only [Act.put, List.getElem_toArray, List.getElem_cons_succ, List.getElem_cons_zero, List.setIfInBounds_toArray, List.set_cons_zero, List.set_cons_succ]
      refine Turns.next 6 rfl (by kernel_rfl) (by rfl) (fun K hK => ?_)
      go_simp
      have hb6 := below_alloc w5.drew (.cells #[.int .i64 d, .int .i64 n] 51)
      have HR6 := Lib.hid (HR5.out.below hb6)
      have HN6 := Lib.hid (Holds.new w5.drew 51 #[.int .i64 d, .int .i64 n])
      obtain ⟨A6, c6, h6, hrest⟩ := HR6.out.push HN.out HN6.out
      have he6 := ((hb6.cell (p := ⟨q, 3, none⟩) (block_lt HS5.out.1)).trans HS5.out.1).symm.trans h6
      simp only [Option.some.injEq, Value.slice.injEq, true_and] at he6
      obtain ⟨rfl, rfl⟩ := he6
      have HRest := Lib.hid hrest
      have HS6 := Lib.hid (show _ ∧ _ ∧ _ from ⟨h6, (hb6.cell (p := ⟨b0, 0, none⟩) (block_lt HS5.out.2.1)).trans HS5.out.2.1, (hb6.cell (p := ⟨b0, 1, none⟩) (block_lt HS5.out.2.2)).trans HS5.out.2.2⟩)
      clear hrest h6 hb6
      refine hK.out _ _ (show (fun (w' : World) => w'.cell? ⟨q, 3, none⟩ = some (.slice Ag T.lp.length cg) ∧ w'.cell? ⟨b0, 0, none⟩ = some (.int .i64 d) ∧ w'.cell? ⟨b0, 1, none⟩ = some (.int .i64 n)) _ from HS6.out) ?_
      clear hK K hS
      have hS := (show (fun (w' : World) => w'.cell? ⟨q, 3, none⟩ = some (.slice Ag T.lp.length cg) ∧ w'.cell? ⟨b0, 0, none⟩ = some (.int .i64 d) ∧ w'.cell? ⟨b0, 1, none⟩ = some (.int .i64 n)) _ from HS6.out)
      refine Turns.next 7 rfl (by kernel_rfl) (by rfl) (fun K hK => ?_)
      obtain ⟨A7, c7, w7, hrun, k7, g7, hC7, hfin⟩ := HRest.out
      have hkb : ∀ o, w7.cell? ⟨b0, o, none⟩ = _ := fun o => hC7.cell (o := o) (block_lt HS6.out.2.1) (fun e => Nat.lt_irrefl _ (HAG.out b0 e))
      have HS7 := Lib.hid (show _ ∧ _ ∧ _ from ⟨k7, (hkb 0).trans HS6.out.2.1, (hkb 1).trans HS6.out.2.2⟩)
      have HFin := Lib.hid hfin
      have HG7 := Lib.hid g7
      clear hfin k7 g7 hC7 hkb
      refine Lib.wp_append_run_sl _ (.tmp 37) (.tmp 39) 48 rfl _ _ ?hs ?hx hrun ?_
      case hs => first | rfl | simp [Act.eval, Act.put]
      case hx => first | rfl | simp [Act.eval, Act.put]
      clear hrun
      refine hK.out _ _ (show (fun (w' : World) => w'.cell? ⟨q, 3, none⟩ = some (.slice Ag T.lp.length cg) ∧ w'.cell? ⟨b0, 0, none⟩ = some (.int .i64 d) ∧ w'.cell? ⟨b0, 1, none⟩ = some (.int .i64 n)) _ from HS7.out) ?_
      clear hK K hS
      have hS := (show (fun (w' : World) => w'.cell? ⟨q, 3, none⟩ = some (.slice Ag T.lp.length cg) ∧ w'.cell? ⟨b0, 0, none⟩ = some (.int .i64 d) ∧ w'.cell? ⟨b0, 1, none⟩ = some (.int .i64 n)) _ from HS7.out)
      refine Turns.rest (late_done (by kernel_rfl)) ?_
      refine any_tail 8 (by rfl) (by kernel_rfl) ?_
      simp only [List.drop_succ_cons, List.drop_zero]
      clear hS
      have k7 := HS7.out.1
      have g7 := HG7.out
      go_wp2
      go_end0
      exact .inl ⟨_, rfl, rfl, HFin.out⟩
  · go_simp
    have HX := Lib.hid (HE.out.box 51 #[.int .i64 0, .int .i64 0])
    refine hK.out _ _ (show (fun (w' : World) => w'.cell? ⟨bb, 1, none⟩ = some (.string b) ∧ w'.cell? ⟨bb, 2, none⟩ = some (.string c) ∧ ∃ U, RT w0 w' g q L k ws U) _ from (HE.out.below HX.out.below).any) ?_
    clear hK K hS
    have hS := (show (fun (w' : World) => w'.cell? ⟨bb, 1, none⟩ = some (.string b) ∧ w'.cell? ⟨bb, 2, none⟩ = some (.string c) ∧ ∃ U, RT w0 w' g q L k ws U) _ from (HE.out.below HX.out.below).any)
    refine Turns.next 4 rfl (by kernel_rfl) (by rfl) (fun K hK => ?_)
    go_simp
    go_at_call 70
    refine (HDY.out _).mono ?_
    rintro e w2 ⟨rfl, hb2⟩
    replace HX := Lib.hid (HX.out.next hb2)
    refine hK.out _ _ (show (fun (w' : World) => w'.cell? ⟨bb, 1, none⟩ = some (.string b) ∧ w'.cell? ⟨bb, 2, none⟩ = some (.string c) ∧ ∃ U, RT w0 w' g q L k ws U) _ from (HE.out.below HX.out.below).any) ?_
    clear hK K hS
    have hS := (show (fun (w' : World) => w'.cell? ⟨bb, 1, none⟩ = some (.string b) ∧ w'.cell? ⟨bb, 2, none⟩ = some (.string c) ∧ ∃ U, RT w0 w' g q L k ws U) _ from (HE.out.below HX.out.below).any)
    refine Turns.next 9 rfl (by kernel_rfl) (by rfl) (fun K hK => ?_)
    go_simp
    go_at_call 72
    refine (HSY.out _).mono ?_
    rintro e w3 ⟨rfl, hb3⟩
    replace HX := Lib.hid (HX.out.next hb3)
    refine hK.out _ _ (show (fun (w' : World) => w'.cell? ⟨bb, 1, none⟩ = some (.string b) ∧ w'.cell? ⟨bb, 2, none⟩ = some (.string c) ∧ ∃ U, RT w0 w' g q L k ws U) _ from (HE.out.below HX.out.below).any) ?_
    clear hK K hS
    have hS := (show (fun (w' : World) => w'.cell? ⟨bb, 1, none⟩ = some (.string b) ∧ w'.cell? ⟨bb, 2, none⟩ = some (.string c) ∧ ∃ U, RT w0 w' g q L k ws U) _ from (HE.out.below HX.out.below).any)
    refine Turns.take hS 10 _ rfl (by kernel_rfl) (by kernel_rfl) (by kernel_rfl) (by kernel_rfl) (fun _ _ _ h => h) (by rfl) (fun w' hS' => by (try dsimp only at hS'); go_split_ands; go_simp; (try with_reducible rfl)) ?_
    simp only [Act.put, List.getElem_toArray, List.getElem_cons_succ, List.getElem_cons_zero, List.setIfInBounds_toArray, List.set_cons_zero, List.set_cons_succ]
    refine Turns.next 12 rfl (by kernel_rfl) (by rfl) (fun K hK => ?_)
    have hH := HX.out.holds
    replace HX := Lib.hid (HX.out.all #[.int .i64 d, .int .i64 n])
    simp only [List.getElem_toArray, List.getElem_cons_succ, List.getElem_cons_zero]
    refine wp_store_at 51 (.tmp 5) (.tmp 18) rfl _ 0 [.int .i64 d, .int .i64 n] ?hx ?hy 51 [.int .i64 0, .int .i64 0] hH pair_info (Nat.le_refl 2) (by simp [Value.oneCell']) ?_
    case hx => first | rfl | simp [Act.eval, Act.put]
    case hy => first | rfl | simp [Act.eval, Act.put]
    rw [splice_pair]
    clear hH
    refine hK.out _ _ (show (fun (w' : World) => w'.cell? ⟨bb, 1, none⟩ = some (.string b) ∧ w'.cell? ⟨bb, 2, none⟩ = some (.string c) ∧ ∃ U, RT w0 w' g q L k ws U) _ from (HE.out.below HX.out.below).any) ?_
    clear hK K hS
    have hS := (show (fun (w' : World) => w'.cell? ⟨bb, 1, none⟩ = some (.string b) ∧ w'.cell? ⟨bb, 2, none⟩ = some (.string c) ∧ ∃ U, RT w0 w' g q L k ws U) _ from (HE.out.below HX.out.below).any)
    refine Turns.rest (late_done (by kernel_rfl)) ?_
    refine any_tail 13 (by rfl) (by kernel_rfl) ?_
    simp only [List.drop_succ_cons, List.drop_zero]
    clear hS
    have HR := Lib.hid (HE.out.2.2.below HX.out.below)
    obtain ⟨Ag, cg, hag1, hag2⟩ := HE.out.age HX.out
    obtain ⟨b0, W, hb0, hW, hL⟩ := HX.out.named
    rw [hW] at hag1
    rw [hb0] at hag2
    have HAG := Lib.hid hag2
    have HAC := Lib.hid hag1
    simp only [hW] at HR ⊢
    first | simp only [hb0] | (have hb1 : w1.heap.size = b0 := hb0; simp only [hb1])
    have HL := Lib.hid hL
    clear hW hb0 HX HE hL hag1 hag2
    obtain ⟨At, ct, hT⟩ := HR.out.tbl
    have t3 := hT.cell 3
    have l0 := HL.out.cell 0
    have l1 := HL.out.cell 1
    clear hT
    have HTK := Lib.hid (takes_any _ _ q T d HR.out.tl HN.out)
    rw [htk] at HTK
    go_upto_region 4 with (first
      | (go_at_call 51; with_reducible refine (must_yes _ _ _).mono ?_; rintro e w4 ⟨rfl, hw4⟩; replace hw4 := hw4.symm; subst hw4)
      | (go_at_call 37; refine HTK.out.mono ?_; rintro e w5 ⟨rfl, n5, hw5⟩; have hb5 := (show Below W.heap.size W w5 by rw [hw5]; exact below_drewN (Below.refl _ _) _); have HB5 := Lib.hid hb5; clear hw5 hb5))
    have HR5 := Lib.hid ((HR.out.below HB5.out).below (Below.refl _ _).drew)
    have HL5 := Lib.hid (show Holds w5.drew b0 51 #[.int .i64 d, .int .i64 n] from HL.out.below HB5.out.drew HL.out.lt)
    have HS5 := Lib.hid (show w5.drew.cell? ⟨q, 3, none⟩ = some (.slice Ag T.lp.length cg) ∧ w5.drew.cell? ⟨b0, 0, none⟩ = some (.int .i64 d) ∧ w5.drew.cell? ⟨b0, 1, none⟩ = some (.int .i64 n) from ⟨(HB5.out.drew.cell (p := ⟨q, 3, none⟩) (block_lt HAC.out)).trans HAC.out, HL5.out.cell 0, HL5.out.cell 1⟩)
    clear HTK HR HL t3 l0 l1 tf
    refine region_turns (fun (w' : World) => w'.cell? ⟨q, 3, none⟩ = some (.slice Ag T.lp.length cg) ∧ w'.cell? ⟨b0, 0, none⟩ = some (.int .i64 d) ∧ w'.cell? ⟨b0, 1, none⟩ = some (.int .i64 n)) (fun j => decide (8 ≤ j)) (by kernel_rfl) (HS5.out) (fun hS => ?_)
    refine Turns.take hS 0 _ rfl (by kernel_rfl) (by kernel_rfl) (by kernel_rfl) (by kernel_rfl) (fun _ _ _ h => h) (by rfl) (fun w' hS' => by (try dsimp only at hS'); go_split_ands; go_simp; (try with_reducible rfl)) ?_
    simp only [Act.put, List.getElem_toArray, List.getElem_cons_succ, List.getElem_cons_zero, List.setIfInBounds_toArray, List.set_cons_zero, List.set_cons_succ]
    refine Turns.take hS 1 _ rfl (by kernel_rfl) (by kernel_rfl) (by kernel_rfl) (by kernel_rfl) (fun _ _ _ h => h) (by rfl) (fun w' hS' => by (try dsimp only at hS'); go_split_ands; go_simp; (try with_reducible rfl)) ?_
    simp only [Act.put, List.getElem_toArray, List.getElem_cons_succ, List.getElem_cons_zero, List.setIfInBounds_toArray, List.set_cons_zero, List.set_cons_succ]
    refine Turns.take hS 2 _ rfl (by kernel_rfl) (by kernel_rfl) (by kernel_rfl) (by kernel_rfl) (fun _ _ _ h => h) (by rfl) (fun w' hS' => by (try dsimp only at hS'); go_split_ands; go_simp; (try with_reducible rfl)) ?_
    simp only [Act.put, List.getElem_toArray, List.getElem_cons_succ, List.getElem_cons_zero, List.setIfInBounds_toArray, List.set_cons_zero, List.set_cons_succ]
    refine Turns.take hS 3 _ rfl (by kernel_rfl) (by kernel_rfl) (by kernel_rfl) (by kernel_rfl) (fun _ _ _ h => h) (by rfl) (fun w' hS' => by (try dsimp only at hS'); go_split_ands; go_simp; (try with_reducible rfl)) ?_
    simp only [Act.put, List.getElem_toArray, List.getElem_cons_succ, List.getElem_cons_zero, List.setIfInBounds_toArray, List.set_cons_zero, List.set_cons_succ]
    refine Turns.take hS 4 _ rfl (by kernel_rfl) (by kernel_rfl) (by kernel_rfl) (by kernel_rfl) (fun _ _ _ h => h) (by rfl) (fun w' hS' => by (try dsimp only at hS'); go_split_ands; go_simp; (try with_reducible rfl)) ?_
    simp only [Act.put, List.getElem_toArray, List.getElem_cons_succ, List.getElem_cons_zero, List.setIfInBounds_toArray, List.set_cons_zero, List.set_cons_succ]
    refine Turns.take hS 5 _ rfl (by kernel_rfl) (by kernel_rfl) (by kernel_rfl) (by kernel_rfl) (fun _ _ _ h => h) (by rfl) (fun w' hS' => by (try dsimp only at hS'); go_split_ands; go_simp; (try with_reducible rfl)) ?_
    simp only [Act.put, List.getElem_toArray, List.getElem_cons_succ, List.getElem_cons_zero, List.setIfInBounds_toArray, List.set_cons_zero, List.set_cons_succ]
    refine Turns.next 6 rfl (by kernel_rfl) (by rfl) (fun K hK => ?_)
    go_simp
    have hb6 := below_alloc w5.drew (.cells #[.int .i64 d, .int .i64 n] 51)
    have HR6 := Lib.hid (HR5.out.below hb6)
    have HN6 := Lib.hid (Holds.new w5.drew 51 #[.int .i64 d, .int .i64 n])
    obtain ⟨A6, c6, h6, hrest⟩ := HR6.out.push HN.out HN6.out
    have he6 := ((hb6.cell (p := ⟨q, 3, none⟩) (block_lt HS5.out.1)).trans HS5.out.1).symm.trans h6
    simp only [Option.some.injEq, Value.slice.injEq, true_and] at he6
    obtain ⟨rfl, rfl⟩ := he6
    have HRest := Lib.hid hrest
    have HS6 := Lib.hid (show _ ∧ _ ∧ _ from ⟨h6, (hb6.cell (p := ⟨b0, 0, none⟩) (block_lt HS5.out.2.1)).trans HS5.out.2.1, (hb6.cell (p := ⟨b0, 1, none⟩) (block_lt HS5.out.2.2)).trans HS5.out.2.2⟩)
    clear hrest h6 hb6
    refine hK.out _ _ (show (fun (w' : World) => w'.cell? ⟨q, 3, none⟩ = some (.slice Ag T.lp.length cg) ∧ w'.cell? ⟨b0, 0, none⟩ = some (.int .i64 d) ∧ w'.cell? ⟨b0, 1, none⟩ = some (.int .i64 n)) _ from HS6.out) ?_
    clear hK K hS
    have hS := (show (fun (w' : World) => w'.cell? ⟨q, 3, none⟩ = some (.slice Ag T.lp.length cg) ∧ w'.cell? ⟨b0, 0, none⟩ = some (.int .i64 d) ∧ w'.cell? ⟨b0, 1, none⟩ = some (.int .i64 n)) _ from HS6.out)
    refine Turns.next 7 rfl (by kernel_rfl) (by rfl) (fun K hK => ?_)
    obtain ⟨A7, c7, w7, hrun, k7, g7, hC7, hfin⟩ := HRest.out
    have hkb : ∀ o, w7.cell? ⟨b0, o, none⟩ = _ := fun o => hC7.cell (o := o) (block_lt HS6.out.2.1) (fun e => Nat.lt_irrefl _ (HAG.out b0 e))
    have HS7 := Lib.hid (show _ ∧ _ ∧ _ from ⟨k7, (hkb 0).trans HS6.out.2.1, (hkb 1).trans HS6.out.2.2⟩)
    have HFin := Lib.hid hfin
    have HG7 := Lib.hid g7
    clear hfin k7 g7 hC7 hkb
    refine Lib.wp_append_run_sl _ (.tmp 37) (.tmp 39) 48 rfl _ _ ?hs ?hx hrun ?_
    case hs => first | rfl | simp [Act.eval, Act.put]
    case hx => first | rfl | simp [Act.eval, Act.put]
    clear hrun
    refine hK.out _ _ (show (fun (w' : World) => w'.cell? ⟨q, 3, none⟩ = some (.slice Ag T.lp.length cg) ∧ w'.cell? ⟨b0, 0, none⟩ = some (.int .i64 d) ∧ w'.cell? ⟨b0, 1, none⟩ = some (.int .i64 n)) _ from HS7.out) ?_
    clear hK K hS
    have hS := (show (fun (w' : World) => w'.cell? ⟨q, 3, none⟩ = some (.slice Ag T.lp.length cg) ∧ w'.cell? ⟨b0, 0, none⟩ = some (.int .i64 d) ∧ w'.cell? ⟨b0, 1, none⟩ = some (.int .i64 n)) _ from HS7.out)
    refine Turns.rest (late_done (by kernel_rfl)) ?_
    refine any_tail 8 (by rfl) (by kernel_rfl) ?_
    simp only [List.drop_succ_cons, List.drop_zero]
    clear hS
    have k7 := HS7.out.1
    have g7 := HG7.out
    go_wp2
    go_end0
    exact .inl ⟨_, rfl, rfl, HFin.out⟩
theorem leap_any (w0 w : World) (g q : Nat) (L ws : List ByteArray) (k : Nat) (T : TB) (h : RT w0 w g q L k ws T) (hws : ∀ s ∈ ws, s.size ≤ 16384) :
    Calls Tryd.prog 49 #[.pointer (some ⟨g, 0, none⟩), .pointer (some ⟨q, 0, none⟩)] w (LinePost w0 g q L k ws (leapR T ws)) := by
  by_cases hb : ws.length = 3 ∧ ws.head? = some leapB
  · obtain ⟨b, c, rfl⟩ := three hb
    have hbs := hws b (by simp)
    have hcs := hws c (by simp)
    rw [leapR_three]
    cases hdb : dayOf b with
    | none => exact leap_day w0 w g q L _ k T b c h rfl hbs hcs hdb
    | some d =>
      cases hsc : stepOf c with
      | none => exact leap_step w0 w g q L _ k T b c h rfl hbs hcs d hdb hsc
      | some n =>
        dsimp only
        by_cases h64 : 64 ≤ T.lp.length
        · rw [if_pos h64]
          exact leap_full w0 w g q L _ k T b c h rfl hbs hcs d n hdb hsc h64
        · rw [if_neg h64]
          cases htk : takesB T.st T.lp d with
          | false => exact leap_order w0 w g q L _ k T b c h rfl hbs hcs d n hdb hsc h64 htk
          | true => exact leap_ok w0 w g q L _ k T b c h rfl hbs hcs d n hdb hsc h64 htk
  · rw [leapR_bad hb]
    have hn := behind_no w w0.heap.size g k L ws leapB 2 h.rd (by decide) hb
    unfold leapB at hn
    have hn2 : Calls Tryd.prog 69 #[.pointer (some ⟨g, 0, none⟩), .string ⟨#[108, 101, 97, 112]⟩, .int .i64 2] w fun e w' => e = .panicked (faultV (k : Int) 3) ∧ w' = w := hn
    have HO := Lib.hid h.old
    clear hn hb
    go_enter Tryd.func49, Tryd.ntmps49
    go_wp2_with (go_at_call 69; refine hn2.mono ?_; rintro e w1 ⟨rfl, hw1⟩; subst hw1)
    exact ⟨rfl, .inr ⟨3, rfl, rfl, HO.out⟩⟩
end Go.Proofs.YtiglhmdiiajmhaaDoor
