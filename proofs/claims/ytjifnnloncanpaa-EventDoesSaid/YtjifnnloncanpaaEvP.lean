/- Package ring, of events: New, Push, Pop, Clear. -/
import Derived.Test.YtjifnnloncanpaaEvR
namespace Go.Proofs.Ytjifnnloncanpaa.RE
open Go.RowKit
set_option linter.unusedVariables false
set_option linter.unusedSimpArgs false

theorem push_full (w : World) (B g b room : Nat) (L : List Ev) (x : Ev) (h : Rg w B g b room L) (hf : L.length = room) :
    Calls Try.prog 19 #[.pointer (some ⟨g, 0, none⟩), (.agg #[.int .i64 x.id, .string x.lab, .int .i64 x.loc, .int .i64 x.time, .int .i64 x.hops, .int .i64 x.root, .int .u16 x.boot, .int .i64 x.way])] w fun e w' => e = .returned (.int .i64 6) ∧ Below w.heap.size w w' := by
  have hb := below_alloc w (.cells #[.int .i64 x.id, .string x.lab, .int .i64 x.loc, .int .i64 x.time, .int .i64 x.hops, .int .i64 x.root, .int .u16 x.boot, .int .i64 x.way] 41)
  have h := h.below hb
  obtain ⟨first, zs, h⟩ := h
  have c2 := h.ptr.cell 2
  have c0 := h.ptr.cell 0
  rw [hf] at c2
  have HB := Lib.hid hb
  clear h hf hb
  go_enter Try.func19, Try.ntmps19
  go_wp2
  go_quiet (fail)
  go_wp2
  go_ret
  exact ⟨rfl, below_drewN HB.out _⟩

/-- Behind a Push that has room. -/
def Pushed (B g b room : Nat) (L : List Ev) (x : Ev) (w : World) (e : Ending) (w' : World) : Prop := e = .returned (.int .i64 0) ∧ Rg w' B g b room (L ++ [x]) ∧ Chg (part g b) w w'
set_option maxHeartbeats 2000000 in
theorem push_any (w : World) (B g b room : Nat) (L : List Ev) (x : Ev) (h : Rg w B g b room L) (hlt : L.length < room) :
    Calls Try.prog 19 #[.pointer (some ⟨g, 0, none⟩), (.agg #[.int .i64 x.id, .string x.lab, .int .i64 x.loc, .int .i64 x.time, .int .i64 x.hops, .int .i64 x.root, .int .u16 x.boot, .int .i64 x.way])] w (Pushed B g b room L x w) := by
  obtain ⟨first, zs, h⟩ := h
  have hle := h.le
  have hcell := fun W (hW : Below w.heap.size w W) => cell_any W g b room first _ (h.below hW).ptr h.pos h.le h.fst L.length (by omega)
  have hm : (first + L.length) % room < room := mod_lt' _ h.pos
  have hend : ∀ W, Below w.heap.size w W → Pushed B g b room L x w (.returned (.int .i64 0)) ((W.setRow b (splice (evs zs) ((first + L.length) % room * 8) (ev8 x)).toArray).setCell ⟨g, 2, none⟩ (.int .i64 ((L.length : Int) + 1))) := fun W hW => by
    have hd := h.below hW
    have hb : Chg (part g b) w W := Chg.of_below _ hW
    rw [evs_set (by rw [h.zl]; exact hm)]
    refine ⟨rfl, ⟨first, zs.set ((first + L.length) % room) x, h.oldg, h.oldb, h.pos, h.le, h.fst, by rw [List.length_append, List.length_singleton]; omega, by simpa using h.zl, ?_, ?_, ring_push h.fst h.zl hlt h.at'⟩,
      (hb.trans (Chg.of_grown (S := part g b) (grown_row W b _) (fun k e => by cases e; exact .inr rfl)) (fun _ _ h => h)).trans (Chg.set (S := part g b) _ g 2 _ (.inl rfl)) (fun _ _ h => h)⟩
    · have := (hd.ptr.grown (grown_row W b (evs (zs.set ((first + L.length) % room) x)).toArray) (fun e => h.ne (by cases e; rfl))).put 2 (.int .i64 ((L.length : Int) + 1))
      simpa using this
    · exact (hd.row.row _).far (fun e => h.ne e.symm) _
  have HEnd := Lib.hid hend
  have HC := Lib.hid hcell
  have HR := Lib.hid h.row
  have HPt := Lib.hid h.ptr
  have HN := Lib.hid h.ne
  obtain ⟨n, hn⟩ : ∃ n, L.length = n := ⟨_, rfl⟩
  rw [hn] at HC hm HEnd hlt HPt
  obtain ⟨I, hI⟩ : ∃ I, (first + n) % room = I := ⟨_, rfl⟩
  rw [hI] at HC hm HEnd
  have d1 : decide ((room : Int) ≤ (n : Int)) = false := decide_eq_false (by omega)
  have e1 := IntWalk.i64_in ((n : Int) + 1) (by omega)
  have hz := h.zl
  have HFit := Lib.hid (show I * 8 + (ev8 x).length ≤ (evs zs).length by rw [evs_len, hz]; show I * 8 + 8 ≤ _; omega)
  have hb0 := below_alloc w (.cells #[.int .i64 x.id, .string x.lab, .int .i64 x.loc, .int .i64 x.time, .int .i64 x.hops, .int .i64 x.root, .int .u16 x.boot, .int .i64 x.way] 41)
  have HX := Lib.hid (show Holds (w.alloc (.cells #[.int .i64 x.id, .string x.lab, .int .i64 x.loc, .int .i64 x.time, .int .i64 x.hops, .int .i64 x.root, .int .u16 x.boot, .int .i64 x.way] 41)) w.heap.size 41 (ev8 x).toArray from Holds.new w _ _)
  have k1 := HPt.out.below hb0 HPt.out.lt
  have c0 := k1.cell 0
  have c2 := k1.cell 2
  have HB0 := Lib.hid hb0
  clear h hend hn hI hcell hb0 k1
  go_enter Try.func19, Try.ntmps19
  go_upto_region 3 with (fail)
  go_quiet (fail)
  go_upto_region 5 with (fail)
  obtain ⟨W0, hW0⟩ : ∃ W0, (w.alloc (.cells #[.int .i64 x.id, .string x.lab, .int .i64 x.loc, .int .i64 x.time, .int .i64 x.hops, .int .i64 x.root, .int .u16 x.boot, .int .i64 x.way] 41)).drewN nq = W0 := ⟨_, rfl⟩
  have hb0 : Below w.heap.size w W0.drew := by rw [← hW0]; exact below_drewN (below_drewN HB0.out nq) 1
  have hx0 : Holds W0.drew w.heap.size 41 (ev8 x).toArray := by rw [← hW0]; exact HX.out
  have k0 : W0.drew.cell? ⟨g, 0, none⟩ = some (.slice (some ⟨b, 0, none⟩) room room) := by rw [← hW0]; exact c0
  have k2 : W0.drew.cell? ⟨g, 2, none⟩ = some (.int .i64 (n : Int)) := by rw [← hW0]; exact c2
  rw [hW0]
  clear hW0 c0 c2
  refine region_turns (fun (w' : World) => w'.cell? ⟨g, 0, none⟩ = some (.slice (some ⟨b, 0, none⟩) room room) ∧ w'.cell? ⟨g, 2, none⟩ = some (.int .i64 (n : Int)) ∧ Holds w' w.heap.size 41 (ev8 x).toArray) (fun j => decide (13 ≤ j)) (by kernel_rfl) (⟨k0, k2, hx0⟩) (fun hS => ?_)
  refine Turns.take hS 0 _ rfl (by kernel_rfl) (by kernel_rfl) (by kernel_rfl) (by kernel_rfl) (fun _ _ _ h => h) (by rfl) (fun w' hS' => by (try dsimp only at hS'); go_split_ands; go_simp; (try with_reducible rfl)) ?_
  simp only [Act.put, List.getElem_toArray, List.getElem_cons_succ, List.getElem_cons_zero, List.setIfInBounds_toArray, List.set_cons_zero, List.set_cons_succ]
  refine Turns.take hS 1 _ rfl (by kernel_rfl) (by kernel_rfl) (by kernel_rfl) (by kernel_rfl) (fun _ _ _ h => h) (by rfl) (fun w' hS' => by (try dsimp only at hS'); go_split_ands; go_simp; (try with_reducible rfl)) ?_
  simp only [Act.put, List.getElem_toArray, List.getElem_cons_succ, List.getElem_cons_zero, List.setIfInBounds_toArray, List.set_cons_zero, List.set_cons_succ]
  refine Turns.take hS 2 _ rfl (by kernel_rfl) (by kernel_rfl) (by kernel_rfl) (by kernel_rfl) (fun _ _ _ h => h) (by rfl) (fun w' hS' => by (try dsimp only at hS'); go_split_ands; go_simp; (try with_reducible rfl)) ?_
  simp only [Act.put, List.getElem_toArray, List.getElem_cons_succ, List.getElem_cons_zero, List.setIfInBounds_toArray, List.set_cons_zero, List.set_cons_succ]
  refine Turns.take hS 3 _ rfl (by kernel_rfl) (by kernel_rfl) (by kernel_rfl) (by kernel_rfl) (fun _ _ _ h => h) (by rfl) (fun w' hS' => by (try dsimp only at hS'); go_split_ands; go_simp; (try with_reducible rfl)) ?_
  simp only [Act.put, List.getElem_toArray, List.getElem_cons_succ, List.getElem_cons_zero, List.setIfInBounds_toArray, List.set_cons_zero, List.set_cons_succ]
  refine Turns.take hS 4 _ rfl (by kernel_rfl) (by kernel_rfl) (by kernel_rfl) (by kernel_rfl) (fun _ _ _ h => h) (by rfl) (fun w' hS' => by (try dsimp only at hS'); go_split_ands; go_simp; (try with_reducible rfl)) ?_
  simp only [Act.put, List.getElem_toArray, List.getElem_cons_succ, List.getElem_cons_zero, List.setIfInBounds_toArray, List.set_cons_zero, List.set_cons_succ]
  refine Turns.take hS 5 _ rfl (by kernel_rfl) (by kernel_rfl) (by kernel_rfl) (by kernel_rfl) (fun _ _ _ h => h) (by rfl) (fun w' hS' => by (try dsimp only at hS'); go_split_ands; go_simp; (try with_reducible rfl)) ?_
  simp only [Act.put, List.getElem_toArray, List.getElem_cons_succ, List.getElem_cons_zero, List.setIfInBounds_toArray, List.set_cons_zero, List.set_cons_succ]
  refine Turns.take hS 6 _ rfl (by kernel_rfl) (by kernel_rfl) (by kernel_rfl) (by kernel_rfl) (fun _ _ _ h => h) (by rfl) (fun w' hS' => by (try dsimp only at hS'); go_split_ands; go_simp; (try with_reducible rfl)) ?_
  simp only [Act.put, List.getElem_toArray, List.getElem_cons_succ, List.getElem_cons_zero, List.setIfInBounds_toArray, List.set_cons_zero, List.set_cons_succ]
  refine Turns.take hS 7 _ rfl (by kernel_rfl) (by kernel_rfl) (by kernel_rfl) (by kernel_rfl) (fun _ _ _ h => h) (by rfl) (fun w' hS' => by (try dsimp only at hS'); go_split_ands; go_simp; (try with_reducible rfl)) ?_
  simp only [Act.put, List.getElem_toArray, List.getElem_cons_succ, List.getElem_cons_zero, List.setIfInBounds_toArray, List.set_cons_zero, List.set_cons_succ]
  refine Turns.take hS 8 _ rfl (by kernel_rfl) (by kernel_rfl) (by kernel_rfl) (by kernel_rfl) (fun _ _ _ h => h) (by rfl) (fun w' hS' => by (try dsimp only at hS'); go_split_ands; go_simp; (try with_reducible rfl)) ?_
  simp only [Act.put, List.getElem_toArray, List.getElem_cons_succ, List.getElem_cons_zero, List.setIfInBounds_toArray, List.set_cons_zero, List.set_cons_succ]
  refine Turns.either 9 10 rfl rfl (by kernel_rfl) (by rfl) (by rfl) (fun K hK => ?_) (fun K hK => ?_)
  · go_simp
    refine (HC.out _ hb0).mono ?_
    rintro e w1 ⟨rfl, m1, hw1⟩
    have hS1 : (fun (w' : World) => w'.cell? ⟨g, 0, none⟩ = some (.slice (some ⟨b, 0, none⟩) room room) ∧ w'.cell? ⟨g, 2, none⟩ = some (.int .i64 (n : Int)) ∧ Holds w' w.heap.size 41 (ev8 x).toArray) w1 := by rw [hw1]; exact ⟨hS.1, hS.2.1, hS.2.2.drewN m1⟩
    have hbw : Below w.heap.size w w1 := by rw [hw1]; exact below_drewN hb0 m1
    clear hw1
    refine hK.out _ _ (show (fun (w' : World) => w'.cell? ⟨g, 0, none⟩ = some (.slice (some ⟨b, 0, none⟩) room room) ∧ w'.cell? ⟨g, 2, none⟩ = some (.int .i64 (n : Int)) ∧ Holds w' w.heap.size 41 (ev8 x).toArray) _ from hS1) ?_
    clear hK K hS
    have hS := (show (fun (w' : World) => w'.cell? ⟨g, 0, none⟩ = some (.slice (some ⟨b, 0, none⟩) room room) ∧ w'.cell? ⟨g, 2, none⟩ = some (.int .i64 (n : Int)) ∧ Holds w' w.heap.size 41 (ev8 x).toArray) _ from hS1)
    refine Turns.next 10 rfl (by kernel_rfl) (by rfl) (fun K hK => ?_)
    simp only [List.getElem_toArray, List.getElem_cons_succ, List.getElem_cons_zero]
    have hS1 := hS
    refine wp_load_in 41 (.tmp 3) rfl w.heap.size 0 ?hx 41 _ (ev8 x) _ hS1.2.2 (ev8_at x) Try.underlying41 rfl (ev_size' x) ?_
    case hx => first | rfl | simp [Act.eval, Act.put]
    refine hK.out _ _ (show (fun (w' : World) => w'.cell? ⟨g, 0, none⟩ = some (.slice (some ⟨b, 0, none⟩) room room) ∧ w'.cell? ⟨g, 2, none⟩ = some (.int .i64 (n : Int)) ∧ Holds w' w.heap.size 41 (ev8 x).toArray) _ from hS1) ?_
    clear hK K hS
    have hS := (show (fun (w' : World) => w'.cell? ⟨g, 0, none⟩ = some (.slice (some ⟨b, 0, none⟩) room room) ∧ w'.cell? ⟨g, 2, none⟩ = some (.int .i64 (n : Int)) ∧ Holds w' w.heap.size 41 (ev8 x).toArray) _ from hS1)
    refine Turns.take hS 11 _ rfl (by kernel_rfl) (by kernel_rfl) (by kernel_rfl) (by kernel_rfl) (fun _ _ _ h => h) (by rfl) (fun w' hS' => by (try dsimp only at hS'); go_split_ands; go_simp; (try with_reducible rfl)) ?_
    simp only [Act.put, List.getElem_toArray, List.getElem_cons_succ, List.getElem_cons_zero, List.setIfInBounds_toArray, List.set_cons_zero, List.set_cons_succ]
    refine Turns.next 12 rfl (by kernel_rfl) (by rfl) (fun K hK => ?_)
    simp only [List.getElem_toArray, List.getElem_cons_succ, List.getElem_cons_zero]
    have hS1 := hS
    have hrow := HR.out.below hbw HR.out.lt
    have hptr := HPt.out.below hbw HPt.out.lt
    refine wp_store_at 41 (.tmp 28) (.tmp 27) rfl b (I * 8) (ev8 x) ?hs ?hx 41 (evs zs) hrow (ev_size' x) HFit.out (ev8_one x) ?_
    case hs => first | rfl | simp [Act.eval, Act.put]
    case hx => first | rfl | simp [Act.eval, Act.put, ev8]
    have HFin := Lib.hid (HEnd.out w1 hbw)
    have hg := grown_row w1 b (splice (evs zs) (I * 8) (ev8 x)).toArray
    have hp2 := hptr.grown hg (fun e => HN.out (by cases e; rfl))
    obtain ⟨W2, hW2⟩ : ∃ W2, w1.setRow b (splice (evs zs) (I * 8) (ev8 x)).toArray = W2 := ⟨_, rfl⟩
    rw [hW2] at HFin hp2 hg ⊢
    clear hW2
    have hS2 : (fun (w' : World) => w'.cell? ⟨g, 0, none⟩ = some (.slice (some ⟨b, 0, none⟩) room room) ∧ w'.cell? ⟨g, 2, none⟩ = some (.int .i64 (n : Int)) ∧ Holds w' w.heap.size 41 (ev8 x).toArray) W2 := ⟨hp2.cell 0, hp2.cell 2, hS1.2.2.grown hg (fun e => by cases e; exact absurd HR.out.lt (Nat.lt_irrefl _))⟩
    clear hS1 hg hrow hptr hbw
    refine hK.out _ _ (show (fun (w' : World) => w'.cell? ⟨g, 0, none⟩ = some (.slice (some ⟨b, 0, none⟩) room room) ∧ w'.cell? ⟨g, 2, none⟩ = some (.int .i64 (n : Int)) ∧ Holds w' w.heap.size 41 (ev8 x).toArray) _ from hS2) ?_
    clear hK K hS
    have hS := (show (fun (w' : World) => w'.cell? ⟨g, 0, none⟩ = some (.slice (some ⟨b, 0, none⟩) room room) ∧ w'.cell? ⟨g, 2, none⟩ = some (.int .i64 (n : Int)) ∧ Holds w' w.heap.size 41 (ev8 x).toArray) _ from hS2)
    refine Turns.rest (late_done (by kernel_rfl)) ?_
    refine any_tail 13 (by rfl) (by kernel_rfl) ?_
    simp only [List.drop_succ_cons, List.drop_zero]
    clear hS
    have cp := hp2.cell 2
    have fp := hp2.soft 2
    clear hp2 hS2 HEnd HC HX HB0 HR HPt hb0 hx0 k0 k2
    go_wp2
    go_ret
    exact HFin.out

  · simp only [List.getElem_toArray, List.getElem_cons_succ, List.getElem_cons_zero]
    have hS1 := hS
    refine wp_load_in 41 (.tmp 3) rfl w.heap.size 0 ?hx 41 _ (ev8 x) _ hS1.2.2 (ev8_at x) Try.underlying41 rfl (ev_size' x) ?_
    case hx => first | rfl | simp [Act.eval, Act.put]
    refine hK.out _ _ (show (fun (w' : World) => w'.cell? ⟨g, 0, none⟩ = some (.slice (some ⟨b, 0, none⟩) room room) ∧ w'.cell? ⟨g, 2, none⟩ = some (.int .i64 (n : Int)) ∧ Holds w' w.heap.size 41 (ev8 x).toArray) _ from hS1) ?_
    clear hK K hS
    have hS := (show (fun (w' : World) => w'.cell? ⟨g, 0, none⟩ = some (.slice (some ⟨b, 0, none⟩) room room) ∧ w'.cell? ⟨g, 2, none⟩ = some (.int .i64 (n : Int)) ∧ Holds w' w.heap.size 41 (ev8 x).toArray) _ from hS1)
    refine Turns.next 9 rfl (by kernel_rfl) (by rfl) (fun K hK => ?_)
    go_simp
    refine (HC.out _ hb0).mono ?_
    rintro e w1 ⟨rfl, m1, hw1⟩
    have hS1 : (fun (w' : World) => w'.cell? ⟨g, 0, none⟩ = some (.slice (some ⟨b, 0, none⟩) room room) ∧ w'.cell? ⟨g, 2, none⟩ = some (.int .i64 (n : Int)) ∧ Holds w' w.heap.size 41 (ev8 x).toArray) w1 := by rw [hw1]; exact ⟨hS.1, hS.2.1, hS.2.2.drewN m1⟩
    have hbw : Below w.heap.size w w1 := by rw [hw1]; exact below_drewN hb0 m1
    clear hw1
    refine hK.out _ _ (show (fun (w' : World) => w'.cell? ⟨g, 0, none⟩ = some (.slice (some ⟨b, 0, none⟩) room room) ∧ w'.cell? ⟨g, 2, none⟩ = some (.int .i64 (n : Int)) ∧ Holds w' w.heap.size 41 (ev8 x).toArray) _ from hS1) ?_
    clear hK K hS
    have hS := (show (fun (w' : World) => w'.cell? ⟨g, 0, none⟩ = some (.slice (some ⟨b, 0, none⟩) room room) ∧ w'.cell? ⟨g, 2, none⟩ = some (.int .i64 (n : Int)) ∧ Holds w' w.heap.size 41 (ev8 x).toArray) _ from hS1)
    refine Turns.take hS 11 _ rfl (by kernel_rfl) (by kernel_rfl) (by kernel_rfl) (by kernel_rfl) (fun _ _ _ h => h) (by rfl) (fun w' hS' => by (try dsimp only at hS'); go_split_ands; go_simp; (try with_reducible rfl)) ?_
    simp only [Act.put, List.getElem_toArray, List.getElem_cons_succ, List.getElem_cons_zero, List.setIfInBounds_toArray, List.set_cons_zero, List.set_cons_succ]
    refine Turns.next 12 rfl (by kernel_rfl) (by rfl) (fun K hK => ?_)
    simp only [List.getElem_toArray, List.getElem_cons_succ, List.getElem_cons_zero]
    have hS1 := hS
    have hrow := HR.out.below hbw HR.out.lt
    have hptr := HPt.out.below hbw HPt.out.lt
    refine wp_store_at 41 (.tmp 28) (.tmp 27) rfl b (I * 8) (ev8 x) ?hs ?hx 41 (evs zs) hrow (ev_size' x) HFit.out (ev8_one x) ?_
    case hs => first | rfl | simp [Act.eval, Act.put]
    case hx => first | rfl | simp [Act.eval, Act.put, ev8]
    have HFin := Lib.hid (HEnd.out w1 hbw)
    have hg := grown_row w1 b (splice (evs zs) (I * 8) (ev8 x)).toArray
    have hp2 := hptr.grown hg (fun e => HN.out (by cases e; rfl))
    obtain ⟨W2, hW2⟩ : ∃ W2, w1.setRow b (splice (evs zs) (I * 8) (ev8 x)).toArray = W2 := ⟨_, rfl⟩
    rw [hW2] at HFin hp2 hg ⊢
    clear hW2
    have hS2 : (fun (w' : World) => w'.cell? ⟨g, 0, none⟩ = some (.slice (some ⟨b, 0, none⟩) room room) ∧ w'.cell? ⟨g, 2, none⟩ = some (.int .i64 (n : Int)) ∧ Holds w' w.heap.size 41 (ev8 x).toArray) W2 := ⟨hp2.cell 0, hp2.cell 2, hS1.2.2.grown hg (fun e => by cases e; exact absurd HR.out.lt (Nat.lt_irrefl _))⟩
    clear hS1 hg hrow hptr hbw
    refine hK.out _ _ (show (fun (w' : World) => w'.cell? ⟨g, 0, none⟩ = some (.slice (some ⟨b, 0, none⟩) room room) ∧ w'.cell? ⟨g, 2, none⟩ = some (.int .i64 (n : Int)) ∧ Holds w' w.heap.size 41 (ev8 x).toArray) _ from hS2) ?_
    clear hK K hS
    have hS := (show (fun (w' : World) => w'.cell? ⟨g, 0, none⟩ = some (.slice (some ⟨b, 0, none⟩) room room) ∧ w'.cell? ⟨g, 2, none⟩ = some (.int .i64 (n : Int)) ∧ Holds w' w.heap.size 41 (ev8 x).toArray) _ from hS2)
    refine Turns.rest (late_done (by kernel_rfl)) ?_
    refine any_tail 13 (by rfl) (by kernel_rfl) ?_
    simp only [List.drop_succ_cons, List.drop_zero]
    clear hS
    have cp := hp2.cell 2
    have fp := hp2.soft 2
    clear hp2 hS2 HEnd HC HX HB0 HR HPt hb0 hx0 k0 k2
    go_wp2
    go_ret
    exact HFin.out

theorem pop_none (w : World) (B g b room : Nat) (h : Rg w B g b room []) :
    Calls Try.prog 21 #[.pointer (some ⟨g, 0, none⟩)] w fun e w' => e = .returned (.tuple #[(.agg #[.int .i64 0, .string ⟨#[]⟩, .int .i64 0, .int .i64 0, .int .i64 0, .int .i64 0, .int .u16 0, .int .i64 0]), .bool false]) ∧ Below w.heap.size w w' := by
  have HH := Lib.hid (show Holds ((w.alloc (.cells #[.int .i64 0, .string ⟨#[]⟩, .int .i64 0, .int .i64 0, .int .i64 0, .int .i64 0, .int .u16 0, .int .i64 0] 41)).alloc (.cells #[.int .i64 0, .string ⟨#[]⟩, .int .i64 0, .int .i64 0, .int .i64 0, .int .i64 0, .int .u16 0, .int .i64 0] 41)) w.heap.size 41 (ev8 evZ).toArray from (Holds.new w _ _).alloc _)
  have HG := Lib.hid (show Holds ((w.alloc (.cells #[.int .i64 0, .string ⟨#[]⟩, .int .i64 0, .int .i64 0, .int .i64 0, .int .i64 0, .int .u16 0, .int .i64 0] 41)).alloc (.cells #[.int .i64 0, .string ⟨#[]⟩, .int .i64 0, .int .i64 0, .int .i64 0, .int .i64 0, .int .u16 0, .int .i64 0] 41)) (w.heap.size + 1) 41 (ev8 evZ).toArray from by
    have := Holds.new (w.alloc (.cells #[.int .i64 0, .string ⟨#[]⟩, .int .i64 0, .int .i64 0, .int .i64 0, .int .i64 0, .int .u16 0, .int .i64 0] 41)) 41 #[.int .i64 0, .string ⟨#[]⟩, .int .i64 0, .int .i64 0, .int .i64 0, .int .i64 0, .int .u16 0, .int .i64 0]
    rwa [size_alloc] at this)
  have hb : Below w.heap.size w ((w.alloc (.cells #[.int .i64 0, .string ⟨#[]⟩, .int .i64 0, .int .i64 0, .int .i64 0, .int .i64 0, .int .u16 0, .int .i64 0] 41)).alloc (.cells #[.int .i64 0, .string ⟨#[]⟩, .int .i64 0, .int .i64 0, .int .i64 0, .int .i64 0, .int .u16 0, .int .i64 0] 41)) := (below_alloc _ _).alloc (by simp) _
  have hl := len_any _ B g b room [] (h.below hb)
  have HB := Lib.hid hb
  clear h hb
  go_enter Try.func21, Try.ntmps21
  go_wp2_with (first
    | (go_at_call 22; refine hl.mono ?_; rintro e wx ⟨rfl, hwx⟩; subst wx)
    | (refine wpList_load_at rfl 41 (.tmp 4) rfl (w.heap.size + 1) 0 rfl 41 _ (ev8 evZ) _ HG.out (ev8_at evZ) Try.underlying41 rfl (ev_size' evZ) ?_)
    | (refine wpList_store_at rfl 41 (.tmp 2) (.tmp 9) rfl w.heap.size 0 (ev8 evZ) rfl rfl 41 (ev8 evZ) HH.out (ev_size' evZ) (Nat.le_refl 8) (ev8_one evZ) ?_; rw [splice_all (ev8 evZ) (ev8 evZ) rfl]))
  refine bodyPost_ret (results_row_tmp rfl _ _ w.heap.size 41 (ev8 evZ) _ _ rfl (HH.out.row _) Try.underlying41 rfl (ev_size' evZ) rfl) rfl ?_
  exact ⟨rfl, HB.out.grown (grown_row _ w.heap.size _) (by simp; omega) (fun k e => by cases e; exact Nat.le_refl _)⟩

/-- Behind a Pop of one. -/
def Popped (B g b room : Nat) (x : Ev) (L : List Ev) (w : World) (e : Ending) (w' : World) : Prop := e = .returned (.tuple #[(.agg #[.int .i64 x.id, .string x.lab, .int .i64 x.loc, .int .i64 x.time, .int .i64 x.hops, .int .i64 x.root, .int .u16 x.boot, .int .i64 x.way]), .bool true]) ∧ Rg w' B g b room L ∧ Chg (part g b) w w'
/-- A Pop under way: its three blocks; the row. -/
structure PopS (w : World) (g b room first : Nat) (zs : List Ev) (r z : List Value) (n : Int) (W : World) : Prop where
  ptr : Holds W g 67 #[.slice (some ⟨b, 0, none⟩) room room, .int .i64 (first : Int), .int .i64 n]
  row : Holds W b 41 (evs zs).toArray
  res : Holds W w.heap.size 41 r.toArray
  non : Holds W (w.heap.size + 1) 41 (ev8 evZ).toArray
  one : z.length = 8 → Holds W (w.heap.size + 2) 41 z.toArray
  chg : Chg (part g b) w W
section
variable {w W : World} {g b room first : Nat} {zs : List Ev} {r z : List Value} {n : Int}
theorem PopS.drewN (h : PopS w g b room first zs r z n W) (m : Nat) : PopS w g b room first zs r z n (W.drewN m) := ⟨h.ptr.drewN m, h.row.drewN m, h.res.drewN m, h.non.drewN m, fun k => (h.one k).drewN m, h.chg.drewN m⟩
theorem PopS.two (h : PopS w g b room first zs r z n W) : W.cell? ⟨g, 0, none⟩ = some (.slice (some ⟨b, 0, none⟩) room room) ∧ W.cell? ⟨g, 1, none⟩ = some (.int .i64 (first : Int)) ∧ PopS w g b room first zs r z n W := ⟨h.ptr.cell 0, h.ptr.cell 1, h⟩
theorem PopS.make (h : PopS w g b room first zs r [] n W) (hs : W.heap.size = w.heap.size + 2) : PopS w g b room first zs r (ev8 evZ) n (W.alloc (.cells #[.int .i64 0, .string ⟨#[]⟩, .int .i64 0, .int .i64 0, .int .i64 0, .int .i64 0, .int .u16 0, .int .i64 0] 41)) :=
  ⟨h.ptr.alloc _, h.row.alloc _, h.res.alloc _, h.non.alloc _, fun _ => by have := Holds.new W 41 #[.int .i64 0, .string ⟨#[]⟩, .int .i64 0, .int .i64 0, .int .i64 0, .int .i64 0, .int .u16 0, .int .i64 0]; rwa [hs] at this, h.chg.trans (Chg.of_below _ (below_alloc _ _)) (fun _ _ h => h)⟩
theorem PopS.lay (h : PopS w g b room first zs r z n W) (hz : z.length = 8) (y : List Value) (hg : g < w.heap.size) (hb : b < w.heap.size) : PopS w g b room first zs r y n (W.setRow (w.heap.size + 2) y.toArray) := by
  have hw := grown_row W (w.heap.size + 2) y.toArray
  exact ⟨h.ptr.grown hw (fun e => by cases e; omega), h.row.grown hw (fun e => by cases e; omega), h.res.grown hw (fun e => by simp at e), h.non.grown hw (fun e => by simp at e), fun _ => (h.one hz).row _,
    ⟨hw.os.trans h.chg.os, hw.tape.trans h.chg.tape, hw.output.trans h.chg.output, Nat.le_trans h.chg.size hw.size, fun k hk hS => (hw.block k (Nat.lt_of_lt_of_le hk h.chg.size) (fun e => by cases e; omega)).trans (h.chg.block k hk hS)⟩⟩
end
end Go.Proofs.Ytjifnnloncanpaa.RE
