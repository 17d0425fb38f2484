/- Package event: a log's calls. -/
import Derived.Test.YtjifnnloncanpaaEvA
import Derived.Test.YtjifnnloncanpaaEvG
namespace Go.Proofs.Ytjifnnloncanpaa
open Go.RowKit
set_option linter.unusedVariables false
set_option linter.unusedSimpArgs false

/-- A log at block l, its row at g, the row's cells in b. -/
structure Lg (w : World) (B l g b : Nat) (L : List Ev) (last : Int) : Prop where
  log : Holds w l 59 #[.pointer (some ⟨g, 0, none⟩), .int .i64 last]
  row : RE.Rg w B g b 16 L
  old : B ≤ l
/-- The blocks of a log. -/
def lpart (l g b : Nat) : Nat → Prop := fun k => k = l ∨ RE.part g b k
section
variable {w w' : World} {B l g b : Nat} {L : List Ev} {last : Int}
theorem Lg.ne (h : Lg w B l g b L last) : ¬ RE.part g b l := fun hp => by
  obtain ⟨f, zs, hr⟩ := h.row
  rcases hp with rfl | rfl
  · exact h.log.apart hr.ptr (by decide) rfl
  · exact h.log.apart hr.row (by decide) rfl
theorem Lg.lt (h : Lg w B l g b L last) : l < w.heap.size ∧ g < w.heap.size ∧ b < w.heap.size := ⟨h.log.lt, h.row.old.2.2.1, h.row.old.2.2.2⟩
theorem Lg.chg {S : Nat → Prop} (h : Lg w B l g b L last) (hc : Chg S w w') (hn : ∀ k, lpart l g b k → ¬ S k) : Lg w' B l g b L last :=
  ⟨h.log.chg hc (hn l (.inl rfl)), h.row.chg hc (hn g (.inr (.inl rfl))) (hn b (.inr (.inr rfl))), h.old⟩
theorem Lg.below (h : Lg w B l g b L last) (hb : Below w.heap.size w w') : Lg w' B l g b L last := h.chg (Chg.of_below (fun _ => False) hb) (fun _ _ => id)
theorem Lg.len (h : Lg w B l g b L last) : L.length ≤ 16 := h.row.len
theorem Lg.part_old (h : Lg w B l g b L last) : ∀ k, lpart l g b k → B ≤ k := fun k hk => by
  rcases hk with rfl | rfl | rfl
  · exact h.old
  · exact h.row.old.1
  · exact h.row.old.2.1
theorem Lg.part_lt (h : Lg w B l g b L last) : ∀ k, lpart l g b k → k < w.heap.size := fun k hk => by
  rcases hk with rfl | rfl | rfl
  · exact h.lt.1
  · exact h.lt.2.1
  · exact h.lt.2.2
/-- The row changed. -/
theorem Lg.put (h : Lg w B l g b L last) {L' : List Ev} (hr : RE.Rg w' B g b 16 L') (hc : Chg (RE.part g b) w w') : Lg w' B l g b L' last := ⟨h.log.chg hc h.ne, hr, h.old⟩
/-- The number changed. -/
theorem Lg.number (h : Lg w B l g b L last) (m : Int) : Lg (w.setCell ⟨l, 1, none⟩ (.int .i64 m)) B l g b L m ∧ Chg (lpart l g b) w (w.setCell ⟨l, 1, none⟩ (.int .i64 m)) :=
  ⟨⟨by have := h.log.put 1 (.int .i64 m); simpa using this, h.row.chg (Chg.set (S := fun k => k = l) w l 1 _ rfl) (fun e => h.ne (.inl e.symm)) (fun e => h.ne (.inr e.symm)), h.old⟩, Chg.set (S := lpart l g b) w l 1 _ (.inl rfl)⟩
end
theorem part_sub {l g b : Nat} : ∀ k, RE.part g b k → lpart l g b k := fun _ h => .inr h

theorem lnew_any (w : World) : Calls Try.prog 7 #[] w fun e w' => e = .returned (.pointer (some ⟨w.heap.size + 2, 0, none⟩)) ∧ Lg w' w.heap.size (w.heap.size + 2) (w.heap.size + 1) w.heap.size [] 0 ∧ Below w.heap.size w w' ∧ w'.heap.size = w.heap.size + 3 := by
  have hn : Calls Try.prog 17 #[.int .i64 16] w _ := RE.new_any w 16 (by omega) (by omega)
  go_enter Try.func7, Try.ntmps7
  go_wp2_with (go_at_call 17; refine hn.mono ?_; rintro e w1 ⟨rfl, hr, hb, hs⟩)
  go_ret
  refine ⟨rfl, ⟨?_, hr.below (below_alloc _ _), by omega⟩, hb.alloc (by omega) _, by rw [size_alloc, hs]⟩
  have := Holds.new w1 59 #[.pointer (some ⟨w.heap.size + 1, 0, none⟩), .int .i64 0]
  rwa [hs] at this

theorem events_any (w : World) (B l g b : Nat) (L : List Ev) (last : Int) (h : Lg w B l g b L last) : Calls Try.prog 20 #[.pointer (some ⟨l, 0, none⟩)] w fun e w' => e = .returned (.pointer (some ⟨g, 0, none⟩)) ∧ w' = w := by
  have c0 := h.log.cell 0
  clear h
  go_enter Try.func20, Try.ntmps20
  go_wp2
  go_ret
  exact ⟨rfl, rfl⟩
theorem events_nil (w : World) : Calls Try.prog 20 #[.pointer none] w fun e w' => e = .returned (.pointer none) ∧ w' = w := by
  go_enter Try.func20, Try.ntmps20
  go_wp2
  go_ret
  exact ⟨rfl, rfl⟩
theorem llen_any (w : World) (B l g b : Nat) (L : List Ev) (last : Int) (h : Lg w B l g b L last) : Calls Try.prog 11 #[.pointer (some ⟨l, 0, none⟩)] w fun e w' => e = .returned (.int .i64 L.length) ∧ w' = w := by
  have he := events_any w B l g b L last h
  have hl := RE.len_any w B g b 16 L h.row
  clear h
  go_enter Try.func11, Try.ntmps11
  go_wp2_with (first
    | (go_at_call 20; refine he.mono ?_; rintro e wx ⟨rfl, hwx⟩; subst wx)
    | (go_at_call 22; refine hl.mono ?_; rintro e wx ⟨rfl, hwx⟩; subst wx))
  go_ret
  exact ⟨rfl, rfl⟩
theorem llen_nil (w : World) : Calls Try.prog 11 #[.pointer none] w fun e w' => e = .returned (.int .i64 0) ∧ w' = w := by
  have he := events_nil w
  have hl := RE.len_nil w
  go_enter Try.func11, Try.ntmps11
  go_wp2_with (first
    | (go_at_call 20; refine he.mono ?_; rintro e wx ⟨rfl, hwx⟩; subst wx)
    | (go_at_call 22; refine hl.mono ?_; rintro e wx ⟨rfl, hwx⟩; subst wx))
  go_ret
  exact ⟨rfl, rfl⟩
/-- All: of a log, or a nil one: the row's pointer boxed. -/
theorem lall_any (w : World) (p q : Option Addr) (he : Calls Try.prog 20 #[.pointer p] w fun e w' => e = .returned (.pointer q) ∧ w' = w) :
    Calls Try.prog 23 #[.pointer p] w fun e w' => e = .returned (.func (.func 27) #[] #[.pointer (some ⟨w.heap.size, 0, none⟩)]) ∧ w' = w.alloc (.cells #[.pointer q] 55) := by
  have ha := RE.all_any w q
  go_enter Try.func23, Try.ntmps23
  go_wp2_with (first
    | (go_at_call 20; refine he.mono ?_; rintro e wx ⟨rfl, hwx⟩; subst wx)
    | (go_at_call 26; refine ha.mono ?_; rintro e wx ⟨rfl, hwx⟩; subst wx))
  go_ret
  exact ⟨rfl, rfl⟩

theorem lclear_nil (w : World) : Calls Try.prog 8 #[.pointer none] w fun e w' => e = .returned (.tuple #[]) ∧ w' = w := by
  go_enter Try.func8, Try.ntmps8
  go_wp2
  refine bodyPost_ret (results_none rfl _ _ _) rfl ?_
  exact ⟨rfl, rfl⟩
theorem lclear_any (w : World) (B l g b : Nat) (L : List Ev) (last : Int) (h : Lg w B l g b L last) : Calls Try.prog 8 #[.pointer (some ⟨l, 0, none⟩)] w fun e w' => e = .returned (.tuple #[]) ∧ Lg w' B l g b [] 0 ∧ Chg (lpart l g b) w w' := by
  have hc := RE.clear_any w B g b 16 L h.row
  have c0 := h.log.cell 0
  have H := Lib.hid h
  clear h
  go_enter Try.func8, Try.ntmps8
  go_upto_region 2 with (go_at_call 18; refine hc.mono ?_; rintro e w1 ⟨rfl, hr, hch⟩)
  have h1 := H.out.put hr hch
  have f1 := h1.log.soft 1
  have c1 := h1.log.cell 1
  have HN := Lib.hid (h1.number 0)
  have HC := Lib.hid hch
  clear c0 hr hch h1 H hc
  go_wp2
  go_end0
  exact ⟨rfl, HN.out.1, (HC.out.mono (fun k _ => part_sub k)).trans HN.out.2 (fun _ _ h => h)⟩

/-- Behind a Take. -/
def Took (B l g b : Nat) (L : List Ev) (last : Int) (w : World) (e : Ending) (w' : World) : Prop :=
  (L = [] ∧ e = .returned (.tuple #[(.agg #[.int .i64 0, .string ⟨#[]⟩, .int .i64 0, .int .i64 0, .int .i64 0, .int .i64 0, .int .u16 0, .int .i64 0]), .bool false]) ∧ Lg w' B l g b [] last ∧ Chg (lpart l g b) w w') ∨ ∃ x M, L = x :: M ∧ e = .returned (.tuple #[(.agg #[.int .i64 x.id, .string x.lab, .int .i64 x.loc, .int .i64 x.time, .int .i64 x.hops, .int .i64 x.root, .int .u16 x.boot, .int .i64 x.way]), .bool true]) ∧ Lg w' B l g b M last ∧ Chg (lpart l g b) w w'
theorem take_nil (w : World) : Calls Try.prog 10 #[.pointer none] w fun e w' => e = .returned (.tuple #[(.agg #[.int .i64 0, .string ⟨#[]⟩, .int .i64 0, .int .i64 0, .int .i64 0, .int .i64 0, .int .u16 0, .int .i64 0]), .bool false]) ∧ Below w.heap.size w w' := by
  have hb := below_alloc w (.cells #[.int .i64 0, .string ⟨#[]⟩, .int .i64 0, .int .i64 0, .int .i64 0, .int .i64 0, .int .u16 0, .int .i64 0] 41)
  have HB := Lib.hid hb
  have HH := Lib.hid (show Holds (w.alloc (.cells #[.int .i64 0, .string ⟨#[]⟩, .int .i64 0, .int .i64 0, .int .i64 0, .int .i64 0, .int .u16 0, .int .i64 0] 41)) w.heap.size 41 (ev8 evZ).toArray from Holds.new w _ _)
  have he := events_nil (w.alloc (.cells #[.int .i64 0, .string ⟨#[]⟩, .int .i64 0, .int .i64 0, .int .i64 0, .int .i64 0, .int .u16 0, .int .i64 0] 41))
  have hp := RE.pop_nil (w.alloc (.cells #[.int .i64 0, .string ⟨#[]⟩, .int .i64 0, .int .i64 0, .int .i64 0, .int .i64 0, .int .u16 0, .int .i64 0] 41))
  clear hb
  go_enter Try.func10, Try.ntmps10
  go_wp2_with (first
    | (go_at_call 20; refine he.mono ?_; rintro e wx ⟨rfl, hwx⟩; subst wx)
    | (go_at_call 21; refine hp.mono ?_; rintro e w1 ⟨rfl, hb1⟩; have HH1 := Lib.hid (HH.out.below hb1 HH.out.lt); have HB1 := Lib.hid (HB.out.trans (hb1.mono HB.out.size)); clear hb1)
    | (refine wpList_store_at rfl 41 (.tmp 2) (.tmp 7) rfl w.heap.size 0 (ev8 evZ) rfl rfl 41 (ev8 evZ) HH1.out (ev_size' evZ) (Nat.le_refl 8) (ev8_one evZ) ?_; rw [splice_all (ev8 evZ) (ev8 evZ) rfl]))
  refine bodyPost_ret (results_row_tmp rfl _ _ w.heap.size 41 (ev8 evZ) _ _ rfl (HH1.out.row _) Try.underlying41 rfl (ev_size' evZ) rfl) rfl ?_
  exact ⟨rfl, HB1.out.grown (grown_row _ w.heap.size _) HB1.out.size (fun k e => by cases e; exact Nat.le_refl _)⟩
theorem chg_own {S : Nat → Prop} {w W : World} (h : Chg S w W) (n : Nat) (hn : w.heap.size ≤ n) (cs : Array Value) : Chg S w (W.setRow n cs) := by
  have hw := grown_row W n cs
  exact ⟨hw.os.trans h.os, hw.tape.trans h.tape, hw.output.trans h.output, Nat.le_trans h.size hw.size, fun k hk hS => (hw.block k (Nat.lt_of_lt_of_le hk h.size) (fun e => by cases e; omega)).trans (h.block k hk hS)⟩
theorem Lg.own {W : World} {B l g b : Nat} {L : List Ev} {last : Int} (h : Lg W B l g b L last) (n : Nat) (hn : ∀ k, lpart l g b k → k < n) (cs : Array Value) : Lg (W.setRow n cs) B l g b L last :=
  h.chg (Chg.of_grown (grown_row W n cs) (S := fun k => k = n) (fun k e => by cases e; rfl)) (fun k hk e => by have := hn k hk; omega)
theorem take_any (w : World) (B l g b : Nat) (L : List Ev) (last : Int) (h : Lg w B l g b L last) : Calls Try.prog 10 #[.pointer (some ⟨l, 0, none⟩)] w (Took B l g b L last w) := by
  have hb := below_alloc w (.cells #[.int .i64 0, .string ⟨#[]⟩, .int .i64 0, .int .i64 0, .int .i64 0, .int .i64 0, .int .u16 0, .int .i64 0] 41)
  have HB := Lib.hid hb
  have HH := Lib.hid (show Holds (w.alloc (.cells #[.int .i64 0, .string ⟨#[]⟩, .int .i64 0, .int .i64 0, .int .i64 0, .int .i64 0, .int .u16 0, .int .i64 0] 41)) w.heap.size 41 (ev8 evZ).toArray from Holds.new w _ _)
  have he := events_any _ B l g b L last (h.below hb)
  have HL := Lib.hid (h.below hb)
  have HP := Lib.hid h.part_lt
  clear h hb
  rcases L with _ | ⟨x, M⟩
  · have hp := RE.pop_none _ B g b 16 HL.out.row
    go_enter Try.func10, Try.ntmps10
    go_wp2_with (first
      | (go_at_call 20; refine he.mono ?_; rintro e wx ⟨rfl, hwx⟩; subst wx)
      | (go_at_call 21; refine hp.mono ?_; rintro e w1 ⟨rfl, hb1⟩; have HH1 := Lib.hid (HH.out.below hb1 HH.out.lt); have HB1 := Lib.hid (HB.out.trans (hb1.mono HB.out.size)); have HL1 := Lib.hid (HL.out.below hb1); clear hb1)
      | (refine wpList_store_at rfl 41 (.tmp 2) (.tmp 7) rfl w.heap.size 0 (ev8 evZ) rfl rfl 41 (ev8 evZ) HH1.out (ev_size' evZ) (Nat.le_refl 8) (ev8_one evZ) ?_; rw [splice_all (ev8 evZ) (ev8 evZ) rfl]))
    refine bodyPost_ret (results_row_tmp rfl _ _ w.heap.size 41 (ev8 evZ) _ _ rfl (HH1.out.row _) Try.underlying41 rfl (ev_size' evZ) rfl) rfl ?_
    exact .inl ⟨rfl, rfl, HL1.out.own _ HP.out _, chg_own (Chg.of_below _ HB1.out) _ (Nat.le_refl _) _⟩
  · have hp := RE.pop_any _ B g b 16 x M HL.out.row
    go_enter Try.func10, Try.ntmps10
    go_wp2_with (first
      | (go_at_call 20; refine he.mono ?_; rintro e wx ⟨rfl, hwx⟩; subst wx)
      | (go_at_call 21; refine hp.mono ?_; rintro e w1 ⟨rfl, hr, hc⟩; have HH1 := Lib.hid (HH.out.chg hc (fun hp => Nat.lt_irrefl _ (HP.out _ (part_sub _ hp)))); have HB1 := Lib.hid ((Chg.of_below (RE.part g b) HB.out).trans hc (fun _ _ h => h)); have HL1 := Lib.hid (HL.out.put hr hc); clear hr hc)
      | (refine wpList_store_at rfl 41 (.tmp 2) (.tmp 7) rfl w.heap.size 0 (ev8 x) rfl rfl 41 (ev8 evZ) HH1.out (ev_size' x) (Nat.le_refl 8) (ev8_one x) ?_; rw [splice_all (ev8 evZ) (ev8 x) rfl]))
    refine bodyPost_ret (results_row_tmp rfl _ _ w.heap.size 41 (ev8 x) _ _ rfl (HH1.out.row _) Try.underlying41 rfl (ev_size' x) rfl) rfl ?_
    exact .inr ⟨x, M, rfl, rfl, HL1.out.own _ HP.out _, (chg_own HB1.out _ (Nat.le_refl _) _).mono (fun k _ => part_sub k)⟩
end Go.Proofs.Ytjifnnloncanpaa
