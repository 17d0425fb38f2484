/- Package event: Tag. -/
import Derived.Test.YtjifnnloncanpaaEvL
namespace Go.Proofs.Ytjifnnloncanpaa
open Go.RowKit
set_option linter.unusedVariables false
set_option linter.unusedSimpArgs false
theorem tag_nil (x : Ev) (w : World) : Calls Try.prog 9 #[.pointer none, .string x.lab, .int .i64 x.loc, (.agg #[.int .i64 x.time, .int .i64 x.hops, .int .i64 x.root, .int .u16 x.boot, .int .i64 x.way])] w fun e w' => e = .returned (.tuple #[.int .i64 0, .int .i64 2]) ∧ Below w.heap.size w w' := by
  have HB := Lib.hid (below_alloc w (.cells #[.int .i64 x.time, .int .i64 x.hops, .int .i64 x.root, .int .u16 x.boot, .int .i64 x.way] 39))
  go_enter Try.func9, Try.ntmps9
  go_wp2
  go_ret2
  exact ⟨rfl, HB.out⟩
theorem tag_bad (x : Ev) (w : World) (l : Nat) (hg : goodL x.lab = false) : Calls Try.prog 9 #[.pointer (some ⟨l, 0, none⟩), .string x.lab, .int .i64 x.loc, (.agg #[.int .i64 x.time, .int .i64 x.hops, .int .i64 x.root, .int .u16 x.boot, .int .i64 x.way])] w fun e w' => e = .returned (.tuple #[.int .i64 0, .int .i64 1]) ∧ Below w.heap.size w w' := by
  have hb := below_alloc w (.cells #[.int .i64 x.time, .int .i64 x.hops, .int .i64 x.root, .int .u16 x.boot, .int .i64 x.way] 39)
  have HB := Lib.hid hb
  have hgd := good_any x.lab (w.alloc (.cells #[.int .i64 x.time, .int .i64 x.hops, .int .i64 x.root, .int .u16 x.boot, .int .i64 x.way] 39))
  rw [hg] at hgd
  clear hb
  go_enter Try.func9, Try.ntmps9
  go_wp2_with (go_at_call 14; refine hgd.mono ?_; rintro e w1 ⟨rfl, hb1⟩)
  go_ret2
  exact ⟨rfl, HB.out.trans (hb1.mono HB.out.size)⟩

/-- Behind a Tag that is taken. -/
def Tagged (B l g b : Nat) (L : List Ev) (x : Ev) (w : World) (e : Ending) (w' : World) : Prop := e = .returned (.tuple #[.int .i64 x.id, .int .i64 0]) ∧ Lg w' B l g b (L ++ [x]) x.id ∧ Chg (lpart l g b) w w'
theorem box5 {w W : World} {x : Ev} (h : Box w 39 #[.int .i64 x.time, .int .i64 x.hops, .int .i64 x.root, .int .u16 x.boot, .int .i64 x.way] W) : (fun (w' : World) => w'.cell? ⟨w.heap.size, 0, none⟩ = some (.int .i64 x.time) ∧ w'.cell? ⟨w.heap.size, 1, none⟩ = some (.int .i64 x.hops) ∧ w'.cell? ⟨w.heap.size, 2, none⟩ = some (.int .i64 x.root) ∧ w'.cell? ⟨w.heap.size, 3, none⟩ = some (.int .u16 x.boot) ∧ w'.cell? ⟨w.heap.size, 4, none⟩ = some (.int .i64 x.way)) W := ⟨h.holds.cell 0, h.holds.cell 1, h.holds.cell 2, h.holds.cell 3, h.holds.cell 4⟩
def TagPost (B l g b : Nat) (L : List Ev) (x : Ev) (w : World) (e : Ending) (w' : World) : Prop := (L.length = 16 ∧ e = .returned (.tuple #[.int .i64 0, .int .i64 6]) ∧ Below w.heap.size w w') ∨ (L.length < 16 ∧ Tagged B l g b L x w e w')
set_option maxHeartbeats 2000000 in
theorem tag_ways (x : Ev) (w : World) (B l g b : Nat) (L : List Ev) (last : Int) (h : Lg w B l g b L last) (hg : goodL x.lab = true) (h0 : 0 ≤ last) (h1 : last ≤ 100000) (hx : x.id = last + 1) :
    Calls Try.prog 9 #[.pointer (some ⟨l, 0, none⟩), .string x.lab, .int .i64 x.loc, (.agg #[.int .i64 x.time, .int .i64 x.hops, .int .i64 x.root, .int .u16 x.boot, .int .i64 x.way])] w (TagPost B l g b L x w) := by
  have hb := below_alloc w (.cells #[.int .i64 x.time, .int .i64 x.hops, .int .i64 x.root, .int .u16 x.boot, .int .i64 x.way] 39)
  have HB := Lib.hid (Box.start w 39 #[.int .i64 x.time, .int .i64 x.hops, .int .i64 x.root, .int .u16 x.boot, .int .i64 x.way])
  have hgd := good_any x.lab (w.alloc (.cells #[.int .i64 x.time, .int .i64 x.hops, .int .i64 x.root, .int .u16 x.boot, .int .i64 x.way] 39))
  rw [hg] at hgd
  have e1 : IntKind.i64.wrap (last + 1) = x.id := by rw [IntWalk.i64_in _ (by omega), hx]
  have HL := Lib.hid (h.below hb)
  have HP := Lib.hid h.part_lt
  have hle := h.len
  have HX := Lib.hid hx
  clear h hb hx hg
  go_enter Try.func9, Try.ntmps9
  go_upto_region 5 with (go_at_call 14; refine hgd.mono ?_; rintro e w1 ⟨rfl, hb1⟩)
  have HB1 := Lib.hid (HB.out.next hb1)
  have HL1 := Lib.hid (HL.out.below hb1)
  have hS0 := box5 (HB1.out.drewN 1)
  have hk0 := HL1.out.log.cell 0
  have hk1 := HL1.out.log.cell 1
  clear HB HL hgd hb1
  refine region_turns (fun (w' : World) => (w'.cell? ⟨l, 0, none⟩ = some (.pointer (some ⟨g, 0, none⟩)) ∧ w'.cell? ⟨l, 1, none⟩ = some (.int .i64 last)) ∧ w'.cell? ⟨w.heap.size, 0, none⟩ = some (.int .i64 x.time) ∧ w'.cell? ⟨w.heap.size, 1, none⟩ = some (.int .i64 x.hops) ∧ w'.cell? ⟨w.heap.size, 2, none⟩ = some (.int .i64 x.root) ∧ w'.cell? ⟨w.heap.size, 3, none⟩ = some (.int .u16 x.boot) ∧ w'.cell? ⟨w.heap.size, 4, none⟩ = some (.int .i64 x.way)) (fun j => decide (11 ≤ j)) (by kernel_rfl) (⟨⟨hk0, hk1⟩, hS0⟩) (fun hS => ?_)
  refine Turns.take hS 0 _ rfl (by kernel_rfl) (by kernel_rfl) (by kernel_rfl) (by kernel_rfl) (fun _ _ _ h => h) (by rfl) (fun w' hS' => by (try dsimp only at hS'); go_split_ands; go_simp; (try with_reducible rfl)) ?_
  simp only [Act.put, List.getElem_toArray, List.getElem_cons_succ, List.getElem_cons_zero, List.setIfInBounds_toArray, List.set_cons_zero, List.set_cons_succ]
  refine Turns.take hS 1 _ rfl (by kernel_rfl) (by kernel_rfl) (by kernel_rfl) (by kernel_rfl) (fun _ _ _ h => h) (by rfl) (fun w' hS' => by (try dsimp only at hS'); go_split_ands; go_simp; (try with_reducible rfl)) ?_
  simp only [Act.put, List.getElem_toArray, List.getElem_cons_succ, List.getElem_cons_zero, List.setIfInBounds_toArray, List.set_cons_zero, List.set_cons_succ]
  refine Turns.take hS 2 _ rfl (by kernel_rfl) (by kernel_rfl) (by kernel_rfl) (by kernel_rfl) (fun _ _ _ h => h) (by rfl) (fun w' hS' => by (try dsimp only at hS'); go_split_ands; go_simp; (try with_reducible rfl)) ?_
  simp only [Act.put, List.getElem_toArray, List.getElem_cons_succ, List.getElem_cons_zero, List.setIfInBounds_toArray, List.set_cons_zero, List.set_cons_succ]
  refine Turns.take hS 3 _ rfl (by kernel_rfl) (by kernel_rfl) (by kernel_rfl) (by kernel_rfl) (fun _ _ _ h => h) (by rfl) (fun w' hS' => by (try dsimp only at hS'); go_split_ands; go_simp; (try with_reducible rfl)) ?_
  simp only [Act.put, List.getElem_toArray, List.getElem_cons_succ, List.getElem_cons_zero, List.setIfInBounds_toArray, List.set_cons_zero, List.set_cons_succ]
  refine Turns.take hS 4 _ rfl (by kernel_rfl) (by kernel_rfl) (by kernel_rfl) (by kernel_rfl) (fun _ _ _ h => h) (by rfl) (fun w' hS' => by (try dsimp only at hS'); go_split_ands; go_simp; (try with_reducible rfl)) ?_
  simp only [Act.put, List.getElem_toArray, List.getElem_cons_succ, List.getElem_cons_zero, List.setIfInBounds_toArray, List.set_cons_zero, List.set_cons_succ]
  refine Turns.take hS 5 _ rfl (by kernel_rfl) (by kernel_rfl) (by kernel_rfl) (by kernel_rfl) (fun _ _ _ h => h) (by rfl) (fun w' hS' => by (try dsimp only at hS'); go_split_ands; go_simp; (try with_reducible rfl)) ?_
  simp only [Act.put, List.getElem_toArray, List.getElem_cons_succ, List.getElem_cons_zero, List.setIfInBounds_toArray, List.set_cons_zero, List.set_cons_succ]
  refine Turns.take hS 6 _ rfl (by kernel_rfl) (by kernel_rfl) (by kernel_rfl) (by kernel_rfl) (fun _ _ _ h => h) (by rfl) (fun w' hS' => by (try dsimp only at hS'); go_split_ands; go_simp; (try with_reducible rfl)) ?_
  simp only [Act.put, List.getElem_toArray, List.getElem_cons_succ, List.getElem_cons_zero, List.setIfInBounds_toArray, List.set_cons_zero, List.set_cons_succ]
  refine Turns.take hS 7 _ rfl (by kernel_rfl) (by kernel_rfl) (by kernel_rfl) (by kernel_rfl) (fun _ _ _ h => h) (by rfl) (fun w' hS' => by (try dsimp only at hS'); go_split_ands; go_simp; (try with_reducible rfl)) ?_
  simp only [Act.put, List.getElem_toArray, List.getElem_cons_succ, List.getElem_cons_zero, List.setIfInBounds_toArray, List.set_cons_zero, List.set_cons_succ]
  refine Turns.take hS 8 _ rfl (by kernel_rfl) (by kernel_rfl) (by kernel_rfl) (by kernel_rfl) (fun _ _ _ h => h) (by rfl) (fun w' hS' => by (try dsimp only at hS'); go_split_ands; go_simp; (try with_reducible rfl)) ?_
  simp only [Act.put, List.getElem_toArray, List.getElem_cons_succ, List.getElem_cons_zero, List.setIfInBounds_toArray, List.set_cons_zero, List.set_cons_succ]
  refine Turns.next 9 rfl (by kernel_rfl) (by rfl) (fun K hK => ?_)
  go_simp
  have hba := (below_alloc w1 (.cells #[.int .i64 0, .string ⟨#[]⟩, .int .i64 0, .int .i64 0, .int .i64 0, .int .i64 0, .int .u16 0, .int .i64 0] 41)).drew
  have hnew : Holds (w1.alloc (.cells #[.int .i64 0, .string ⟨#[]⟩, .int .i64 0, .int .i64 0, .int .i64 0, .int .i64 0, .int .u16 0, .int .i64 0] 41)).drew w1.heap.size 41 (ev8 evZ).toArray := Holds.new w1 _ _
  have hlt := HB1.out.lt
  obtain ⟨V, hV⟩ : ∃ V, (w1.alloc (.cells #[.int .i64 0, .string ⟨#[]⟩, .int .i64 0, .int .i64 0, .int .i64 0, .int .i64 0, .int .u16 0, .int .i64 0] 41)).drew = V := ⟨_, rfl⟩
  rw [hV] at hba hnew ⊢
  have HB2 := Lib.hid (HB1.out.next hba)
  have HL2 := Lib.hid (HL1.out.below hba)
  have HN := Lib.hid hnew
  have HP2 := Lib.hid (show ∀ k, lpart l g b k → k < w1.heap.size from HL1.out.part_lt)
  have hS1 : (fun (w' : World) => (w'.cell? ⟨l, 0, none⟩ = some (.pointer (some ⟨g, 0, none⟩)) ∧ w'.cell? ⟨l, 1, none⟩ = some (.int .i64 last)) ∧ w'.cell? ⟨w.heap.size, 0, none⟩ = some (.int .i64 x.time) ∧ w'.cell? ⟨w.heap.size, 1, none⟩ = some (.int .i64 x.hops) ∧ w'.cell? ⟨w.heap.size, 2, none⟩ = some (.int .i64 x.root) ∧ w'.cell? ⟨w.heap.size, 3, none⟩ = some (.int .u16 x.boot) ∧ w'.cell? ⟨w.heap.size, 4, none⟩ = some (.int .i64 x.way)) V := ⟨⟨HL2.out.log.cell 0, HL2.out.log.cell 1⟩, box5 HB2.out⟩
  obtain ⟨ne, hne⟩ : ∃ ne, w1.heap.size = ne := ⟨_, rfl⟩
  simp only [hne] at HN HP2 hlt ⊢
  clear hV hnew hba hne HL1 HB1
  refine hK.out _ _ (show (fun (w' : World) => (w'.cell? ⟨l, 0, none⟩ = some (.pointer (some ⟨g, 0, none⟩)) ∧ w'.cell? ⟨l, 1, none⟩ = some (.int .i64 last)) ∧ w'.cell? ⟨w.heap.size, 0, none⟩ = some (.int .i64 x.time) ∧ w'.cell? ⟨w.heap.size, 1, none⟩ = some (.int .i64 x.hops) ∧ w'.cell? ⟨w.heap.size, 2, none⟩ = some (.int .i64 x.root) ∧ w'.cell? ⟨w.heap.size, 3, none⟩ = some (.int .u16 x.boot) ∧ w'.cell? ⟨w.heap.size, 4, none⟩ = some (.int .i64 x.way)) _ from hS1) ?_
  clear hK K hS
  have hS := (show (fun (w' : World) => (w'.cell? ⟨l, 0, none⟩ = some (.pointer (some ⟨g, 0, none⟩)) ∧ w'.cell? ⟨l, 1, none⟩ = some (.int .i64 last)) ∧ w'.cell? ⟨w.heap.size, 0, none⟩ = some (.int .i64 x.time) ∧ w'.cell? ⟨w.heap.size, 1, none⟩ = some (.int .i64 x.hops) ∧ w'.cell? ⟨w.heap.size, 2, none⟩ = some (.int .i64 x.root) ∧ w'.cell? ⟨w.heap.size, 3, none⟩ = some (.int .u16 x.boot) ∧ w'.cell? ⟨w.heap.size, 4, none⟩ = some (.int .i64 x.way)) _ from hS1)
  refine Turns.next 10 rfl (by kernel_rfl) (by rfl) (fun K hK => ?_)
  simp only [List.getElem_toArray, List.getElem_cons_succ, List.getElem_cons_zero]
  refine wp_store_at 41 (.tmp 10) (.tmp 25) rfl ne 0 (ev8 x) ?hs ?hx 41 (ev8 evZ) HN.out (ev_size' x) (Nat.le_refl 8) (ev8_one x) ?_
  case hs => first | rfl | simp [Act.eval, Act.put]
  case hx => first | rfl | simp [Act.eval, Act.put, ev8]
  rw [splice_all (ev8 evZ) (ev8 x) rfl]
  have HN3 := Lib.hid (HN.out.row (ev8 x).toArray)
  have HL3 := Lib.hid (HL2.out.own ne HP2.out (ev8 x).toArray)
  have HC3 := Lib.hid (chg_own (Chg.of_below (fun _ => False) HB2.out.below) ne (Nat.le_of_lt hlt) (ev8 x).toArray)
  have HB3 := Lib.hid (HB2.out.below.grown (grown_row V ne (ev8 x).toArray) HB2.out.below.size (fun k e => by cases e; exact Nat.le_of_lt hlt))
  have hH3 := HB2.out.holds.grown (grown_row V ne (ev8 x).toArray) (fun e => by cases e; exact Nat.lt_irrefl _ hlt)
  obtain ⟨U, hU⟩ : ∃ U, V.setRow ne (ev8 x).toArray = U := ⟨_, rfl⟩
  rw [hU] at hH3 HN3 HL3 HC3 HB3 ⊢
  clear hU
  have hS1 : (fun (w' : World) => (w'.cell? ⟨l, 0, none⟩ = some (.pointer (some ⟨g, 0, none⟩)) ∧ w'.cell? ⟨l, 1, none⟩ = some (.int .i64 last)) ∧ w'.cell? ⟨w.heap.size, 0, none⟩ = some (.int .i64 x.time) ∧ w'.cell? ⟨w.heap.size, 1, none⟩ = some (.int .i64 x.hops) ∧ w'.cell? ⟨w.heap.size, 2, none⟩ = some (.int .i64 x.root) ∧ w'.cell? ⟨w.heap.size, 3, none⟩ = some (.int .u16 x.boot) ∧ w'.cell? ⟨w.heap.size, 4, none⟩ = some (.int .i64 x.way)) U := ⟨⟨HL3.out.log.cell 0, HL3.out.log.cell 1⟩, hH3.cell 0, hH3.cell 1, hH3.cell 2, hH3.cell 3, hH3.cell 4⟩
  clear hH3
  refine hK.out _ _ (show (fun (w' : World) => (w'.cell? ⟨l, 0, none⟩ = some (.pointer (some ⟨g, 0, none⟩)) ∧ w'.cell? ⟨l, 1, none⟩ = some (.int .i64 last)) ∧ w'.cell? ⟨w.heap.size, 0, none⟩ = some (.int .i64 x.time) ∧ w'.cell? ⟨w.heap.size, 1, none⟩ = some (.int .i64 x.hops) ∧ w'.cell? ⟨w.heap.size, 2, none⟩ = some (.int .i64 x.root) ∧ w'.cell? ⟨w.heap.size, 3, none⟩ = some (.int .u16 x.boot) ∧ w'.cell? ⟨w.heap.size, 4, none⟩ = some (.int .i64 x.way)) _ from hS1) ?_
  clear hK K hS
  have hS := (show (fun (w' : World) => (w'.cell? ⟨l, 0, none⟩ = some (.pointer (some ⟨g, 0, none⟩)) ∧ w'.cell? ⟨l, 1, none⟩ = some (.int .i64 last)) ∧ w'.cell? ⟨w.heap.size, 0, none⟩ = some (.int .i64 x.time) ∧ w'.cell? ⟨w.heap.size, 1, none⟩ = some (.int .i64 x.hops) ∧ w'.cell? ⟨w.heap.size, 2, none⟩ = some (.int .i64 x.root) ∧ w'.cell? ⟨w.heap.size, 3, none⟩ = some (.int .u16 x.boot) ∧ w'.cell? ⟨w.heap.size, 4, none⟩ = some (.int .i64 x.way)) _ from hS1)
  refine Turns.rest (late_done (by kernel_rfl)) ?_
  refine any_tail 11 (by rfl) (by kernel_rfl) ?_
  simp only [List.drop_succ_cons, List.drop_zero]
  clear hS
  clear HN HL2 HB2 e1 hk0 hk1 hS0
  go_upto_region 6 with (fail)
  have hr := HL3.out.row
  have hk0 : U.drew.cell? ⟨l, 0, none⟩ = some (.pointer (some ⟨g, 0, none⟩)) := HL3.out.log.cell 0
  have hne : Holds U.drew ne 41 (ev8 x).toArray := HN3.out.drewN 1
  have hL4 : Lg U.drew B l g b L last := HL3.out.below (below_drewN (Below.refl _ _) 1)
  have HL4 := Lib.hid hL4
  have HN4 := Lib.hid hne
  have HC4 := Lib.hid (show Chg (fun _ => False) w U.drew from HC3.out.drewN 1)
  have HB4 := Lib.hid (show Below w.heap.size w U.drew from HB3.out.drew)
  clear hr hne hL4 HL3 HN3 HC3 HB3
  by_cases hf : L.length = 16
  · have hp := RE.push_full _ B g b 16 L x HL4.out.row hf
    refine region_turns (fun (w' : World) => w'.cell? ⟨l, 0, none⟩ = some (.pointer (some ⟨g, 0, none⟩))) (fun j => decide (6 ≤ j)) (by kernel_rfl) (hk0) (fun hS => ?_)
    refine Turns.take hS 0 _ rfl (by kernel_rfl) (by kernel_rfl) (by kernel_rfl) (by kernel_rfl) (fun _ _ _ h => h) (by rfl) (fun w' hS' => by (try dsimp only at hS'); go_split_ands; go_simp; (try with_reducible rfl)) ?_
    simp only [Act.put, List.getElem_toArray, List.getElem_cons_succ, List.getElem_cons_zero, List.setIfInBounds_toArray, List.set_cons_zero, List.set_cons_succ]
    refine Turns.take hS 1 _ rfl (by kernel_rfl) (by kernel_rfl) (by kernel_rfl) (by kernel_rfl) (fun _ _ _ h => h) (by rfl) (fun w' hS' => by (try dsimp only at hS'); go_split_ands; go_simp; (try with_reducible rfl)) ?_
    simp only [Act.put, List.getElem_toArray, List.getElem_cons_succ, List.getElem_cons_zero, List.setIfInBounds_toArray, List.set_cons_zero, List.set_cons_succ]
    refine Turns.take hS 2 _ rfl (by kernel_rfl) (by kernel_rfl) (by kernel_rfl) (by kernel_rfl) (fun _ _ _ h => h) (by rfl) (fun w' hS' => by (try dsimp only at hS'); go_split_ands; go_simp; (try with_reducible rfl)) ?_
    simp only [Act.put, List.getElem_toArray, List.getElem_cons_succ, List.getElem_cons_zero, List.setIfInBounds_toArray, List.set_cons_zero, List.set_cons_succ]
    refine Turns.take hS 3 _ rfl (by kernel_rfl) (by kernel_rfl) (by kernel_rfl) (by kernel_rfl) (fun _ _ _ h => h) (by rfl) (fun w' hS' => by (try dsimp only at hS'); go_split_ands; go_simp; (try with_reducible rfl)) ?_
    simp only [Act.put, List.getElem_toArray, List.getElem_cons_succ, List.getElem_cons_zero, List.setIfInBounds_toArray, List.set_cons_zero, List.set_cons_succ]
    refine Turns.next 4 rfl (by kernel_rfl) (by rfl) (fun K hK => ?_)
    simp only [List.getElem_toArray, List.getElem_cons_succ, List.getElem_cons_zero]
    refine wp_load_in 41 (.tmp 10) rfl ne 0 ?hx 41 _ [.int .i64 x.id, .string x.lab, .int .i64 x.loc, .int .i64 x.time, .int .i64 x.hops, .int .i64 x.root, .int .u16 x.boot, .int .i64 x.way] _ HN4.out (ev8_at x) Try.underlying41 rfl (ev_size' x) ?_
    case hx => first | rfl | simp [Act.eval, Act.put]
    refine hK.out _ _ (show (fun (w' : World) => w'.cell? ⟨l, 0, none⟩ = some (.pointer (some ⟨g, 0, none⟩))) _ from hk0) ?_
    clear hK K hS
    have hS := (show (fun (w' : World) => w'.cell? ⟨l, 0, none⟩ = some (.pointer (some ⟨g, 0, none⟩))) _ from hk0)
    refine Turns.next 5 rfl (by kernel_rfl) (by rfl) (fun K hK => ?_)
    go_simp
    refine hp.mono ?_
    rintro e w5 ⟨rfl, hb5⟩
    have HB5 := Lib.hid (HB4.out.trans (hb5.mono HB4.out.size))
    have hk5 := (HL4.out.below hb5).log.cell 0
    refine hK.out _ _ (show (fun (w' : World) => w'.cell? ⟨l, 0, none⟩ = some (.pointer (some ⟨g, 0, none⟩))) _ from hk5) ?_
    clear hK K hS
    have hS := (show (fun (w' : World) => w'.cell? ⟨l, 0, none⟩ = some (.pointer (some ⟨g, 0, none⟩))) _ from hk5)
    refine Turns.rest (late_done (by kernel_rfl)) ?_
    refine any_tail 6 (by rfl) (by kernel_rfl) ?_
    simp only [List.drop_succ_cons, List.drop_zero]
    clear hS
    go_wp2
    go_ret2
    exact .inl ⟨hf, rfl, HB5.out⟩
  · have hlt16 : L.length < 16 := by omega
    have hp := RE.push_any _ B g b 16 L x HL4.out.row hlt16
    refine region_turns (fun (w' : World) => w'.cell? ⟨l, 0, none⟩ = some (.pointer (some ⟨g, 0, none⟩))) (fun j => decide (6 ≤ j)) (by kernel_rfl) (hk0) (fun hS => ?_)
    refine Turns.take hS 0 _ rfl (by kernel_rfl) (by kernel_rfl) (by kernel_rfl) (by kernel_rfl) (fun _ _ _ h => h) (by rfl) (fun w' hS' => by (try dsimp only at hS'); go_split_ands; go_simp; (try with_reducible rfl)) ?_
    simp only [Act.put, List.getElem_toArray, List.getElem_cons_succ, List.getElem_cons_zero, List.setIfInBounds_toArray, List.set_cons_zero, List.set_cons_succ]
    refine Turns.take hS 1 _ rfl (by kernel_rfl) (by kernel_rfl) (by kernel_rfl) (by kernel_rfl) (fun _ _ _ h => h) (by rfl) (fun w' hS' => by (try dsimp only at hS'); go_split_ands; go_simp; (try with_reducible rfl)) ?_
    simp only [Act.put, List.getElem_toArray, List.getElem_cons_succ, List.getElem_cons_zero, List.setIfInBounds_toArray, List.set_cons_zero, List.set_cons_succ]
    refine Turns.take hS 2 _ rfl (by kernel_rfl) (by kernel_rfl) (by kernel_rfl) (by kernel_rfl) (fun _ _ _ h => h) (by rfl) (fun w' hS' => by (try dsimp only at hS'); go_split_ands; go_simp; (try with_reducible rfl)) ?_
    simp only [Act.put, List.getElem_toArray, List.getElem_cons_succ, List.getElem_cons_zero, List.setIfInBounds_toArray, List.set_cons_zero, List.set_cons_succ]
    refine Turns.take hS 3 _ rfl (by kernel_rfl) (by kernel_rfl) (by kernel_rfl) (by kernel_rfl) (fun _ _ _ h => h) (by rfl) (fun w' hS' => by (try dsimp only at hS'); go_split_ands; go_simp; (try with_reducible rfl)) ?_
    simp only [Act.put, List.getElem_toArray, List.getElem_cons_succ, List.getElem_cons_zero, List.setIfInBounds_toArray, List.set_cons_zero, List.set_cons_succ]
    refine Turns.next 4 rfl (by kernel_rfl) (by rfl) (fun K hK => ?_)
    simp only [List.getElem_toArray, List.getElem_cons_succ, List.getElem_cons_zero]
    refine wp_load_in 41 (.tmp 10) rfl ne 0 ?hx 41 _ [.int .i64 x.id, .string x.lab, .int .i64 x.loc, .int .i64 x.time, .int .i64 x.hops, .int .i64 x.root, .int .u16 x.boot, .int .i64 x.way] _ HN4.out (ev8_at x) Try.underlying41 rfl (ev_size' x) ?_
    case hx => first | rfl | simp [Act.eval, Act.put]
    refine hK.out _ _ (show (fun (w' : World) => w'.cell? ⟨l, 0, none⟩ = some (.pointer (some ⟨g, 0, none⟩))) _ from hk0) ?_
    clear hK K hS
    have hS := (show (fun (w' : World) => w'.cell? ⟨l, 0, none⟩ = some (.pointer (some ⟨g, 0, none⟩))) _ from hk0)
    refine Turns.next 5 rfl (by kernel_rfl) (by rfl) (fun K hK => ?_)
    go_simp
    refine hp.mono ?_
    rintro e w5 ⟨rfl, hr5, hc5⟩
    have HL5 := Lib.hid (HL4.out.put hr5 hc5)
    have HC5 := Lib.hid ((HC4.out.mono (S' := RE.part g b) (fun _ _ h => h.elim)).trans hc5 (fun _ _ h => h))
    have HN5 := Lib.hid (HN4.out.chg hc5 (fun hp => Nat.lt_irrefl _ (HP2.out _ (part_sub _ hp))))
    have hk5 := HL5.out.log.cell 0
    clear hr5 hc5
    refine hK.out _ _ (show (fun (w' : World) => w'.cell? ⟨l, 0, none⟩ = some (.pointer (some ⟨g, 0, none⟩))) _ from hk5) ?_
    clear hK K hS
    have hS := (show (fun (w' : World) => w'.cell? ⟨l, 0, none⟩ = some (.pointer (some ⟨g, 0, none⟩))) _ from hk5)
    refine Turns.rest (late_done (by kernel_rfl)) ?_
    refine any_tail 6 (by rfl) (by kernel_rfl) ?_
    simp only [List.drop_succ_cons, List.drop_zero]
    clear hS
    have n0 : w5.cell? ⟨ne, 0, none⟩ = some (.int .i64 x.id) := HN5.out.cell 0
    have c1 := HL5.out.log.cell 1
    have f1 := HL5.out.log.soft 1
    have HF := Lib.hid (HL5.out.number x.id)
    have hnf := HN5.out.far (b := l) (fun e => by have := HP2.out l (.inl rfl); omega) (.int .i64 x.id) (i := 1)
    have n1 : (w5.setCell ⟨l, 1, none⟩ (.int .i64 x.id)).cell? ⟨ne, 0, none⟩ = some (.int .i64 x.id) := hnf.cell 0
    clear hnf hp HN4 HL4 HC4 HB4 hk0 hk5
    go_wp2
    go_ret2
    exact .inr ⟨hlt16, rfl, HF.out.1, (HC5.out.mono (fun k _ => part_sub k)).trans HF.out.2 (fun _ _ h => h)⟩
end Go.Proofs.Ytjifnnloncanpaa
