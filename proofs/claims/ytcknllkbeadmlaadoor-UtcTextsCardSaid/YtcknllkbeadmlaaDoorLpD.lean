/- Package leap: the line of a leap. -/
import Derived.Test.YtcknllkbeadmlaaDoorLpC
import Derived.Lib.SlFresh
namespace Go.Proofs.YtcknllkbeadmlaaDoor
open Go.RowKit
set_option linter.unusedSimpArgs false
set_option linter.unusedVariables false

theorem leap_info : (Tryd.prog.info? 63).map (fun i => (i.zero, i.size, i.bytes)) = some (some (.agg #[.int .i64 0, .int .i64 0]), 2, 16) := by kernel_rfl
/-- One more leap: the row's append, and the store of the slice. -/
theorem Tl.push {w : World} {B q : Nat} {T : TB} (h : Tl w B q T) (hn : T.lp.length ≤ 1000) (hB : B ≤ w.heap.size) {b : Nat} {te : TypeId} {x y : Int} (hy : Holds w b te #[.int .i64 x, .int .i64 y]) :
    ∃ A c, Holds w q 90 #[.int .i64 T.st, .int .i64 T.ah, .int .i64 T.en, .slice A T.lp.length c] ∧ ∃ A' c' w2, (Builtin.append_ #[64, 64] 64 #[.slice A T.lp.length c, .slice (some ⟨b, 0, none⟩) 1 1]).run Tryd.prog w = .ok (.slice A' (T.lp.length + 1) c') w2 ∧
      Holds w2 q 90 #[.int .i64 T.st, .int .i64 T.ah, .int .i64 T.en, .slice A T.lp.length c] ∧ Tl (w2.setCell ⟨q, 3, none⟩ (.slice A' (T.lp.length + 1) c')) B q ⟨T.st, T.ah, T.en, T.lp ++ [(x, y)]⟩ ∧
      Chg (fun k => (Value.slice A T.lp.length c).ownBlock = some k) w w2 ∧ w.ownsRow B 63 2 (.slice A T.lp.length c) T.lp.length (prs T.lp) := by
  obtain ⟨hBq, A, c, hH, hO⟩ := h
  obtain ⟨i, hi, hzz⟩ := Option.map_eq_some_iff.1 leap_info
  simp only [Prod.mk.injEq] at hzz
  obtain ⟨hz, hs, hby⟩ := hzz
  obtain ⟨A', c', w2, hrun, ho2, hg2, _⟩ := run_append_rowK (P := Tryd.prog) w B 64 64 63 i _ 2 16 Tryd.underlying64 hi hz hs hby rfl (by omega) _ T.lp.length _ hO ⟨b, 0, none⟩ 1 1 (prs [(x, y)]) rfl (fun j u hj => by
    rw [Go.WideShapes.add_plain, Nat.zero_add, hy.cell, List.getElem?_toArray]
    exact hj) (prs_one _) (by unfold maxLen; omega) (by omega) hB
  have hC := Chg.of_grown (S := fun k => (Value.slice A T.lp.length c).ownBlock = some k) hg2 (fun k hk => hk)
  have hne := hH.own_apart hO (by decide)
  have hH2 := hH.chg hC hne
  have hne2 := hH2.own_apart ho2 (by decide)
  have hlen : (T.lp ++ [(x, y)]).length = T.lp.length + 1 := by simp
  refine ⟨A, c, hH, A', c', w2, hrun, hH2, ⟨hBq, A', c', ?_, ?_⟩, hC, hO⟩
  · rw [hlen]
    exact hH2.put 3 _
  · rw [hlen, prs_append]
    exact own_chg ho2 (Chg.set w2 q 3 _ (S := fun k => k = q) rfl) (fun z hz e => hne2 (by rw [← e]; exact hz))
/-- What a leap's words tell. -/
theorem leapR_bad {T : TB} {ws : List ByteArray} (h : ¬ (ws.length = 3 ∧ ws.head? = some leapB)) : leapR T ws = .error 3 := by
  unfold leapR
  split
  · rw [if_neg]
    rintro rfl
    exact h ⟨rfl, rfl⟩
  · rfl
theorem leapR_three (T : TB) (b c : ByteArray) : leapR T [leapB, b, c] = match dayOf b, stepOf c with
      | some d, some n => if 64 ≤ T.lp.length then .error 6 else if takesB T.st T.lp d then .ok ⟨T.st, T.ah, T.en, T.lp ++ [(d, n)]⟩ else .error 12
      | _, _ => .error 3 := by
  unfold leapR
  exact if_pos rfl
theorem pair_info : (Tryd.prog.info? 63).map (·.size) = some 2 := by kernel_rfl
theorem Box.named {w0 w : World} {t : TypeId} {cs : Array Value} (h : Box w0 t cs w) : ∃ b W, w0.heap.size = b ∧ w = W ∧ Holds W b t cs := ⟨_, _, rfl, rfl, h.holds⟩
theorem splice_pair (a b c d : Value) : splice [a, b] 0 [c, d] = [c, d] := splice_all _ _ rfl
theorem Box.all {w0 w : World} {t : TypeId} {cs : Array Value} (h : Box w0 t cs w) (cs' : Array Value) : Box w0 t cs' (w.setRow w0.heap.size cs') := ⟨h.holds.row cs', h.below.grown (grown_row w _ _) h.below.size (fun k e => by cases e; exact Nat.le_refl _)⟩
theorem Box.put {w0 w : World} {t : TypeId} {cs : Array Value} (h : Box w0 t cs w) (i : Nat) (v : Value) : Box w0 t (cs.setIfInBounds i v) (w.setCell ⟨w0.heap.size, i, none⟩ v) := ⟨h.holds.put i v, h.below.setCell (Nat.le_refl _) _⟩
theorem Box.pair {w0 w : World} {t : TypeId} {a b : Value} (h : Box w0 t #[a, b] w) : w.cell? ⟨w0.heap.size, 0, none⟩ = some a ∧ w.cell? ⟨w0.heap.size, 1, none⟩ = some b ∧ w.frozen? ⟨w0.heap.size, 0, none⟩ = false ∧ w.frozen? ⟨w0.heap.size, 1, none⟩ = false := ⟨h.holds.cell 0, h.holds.cell 1, h.holds.soft 0, h.holds.soft 1⟩
end Go.Proofs.YtcknllkbeadmlaaDoor
