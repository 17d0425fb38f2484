/- Package ring, of events: Pop of one, Clear, New. -/
import Derived.Test.YtjifnnloncanpaaEvP
namespace Go.Proofs.Ytjifnnloncanpaa.RE
open Go.RowKit
set_option linter.unusedVariables false
set_option linter.unusedSimpArgs false

section
variable {w W : World} {B g b room first : Nat} {zs L : List Ev} {r z : List Value} {n : Int} {x : Ev}
theorem PopS.start (h : R0 w B g b room first zs L) : PopS w g b room first zs (ev8 evZ) [] L.length ((w.alloc (.cells #[.int .i64 0, .string ⟨#[]⟩, .int .i64 0, .int .i64 0, .int .i64 0, .int .i64 0, .int .u16 0, .int .i64 0] 41)).alloc (.cells #[.int .i64 0, .string ⟨#[]⟩, .int .i64 0, .int .i64 0, .int .i64 0, .int .i64 0, .int .u16 0, .int .i64 0] 41)) := by
  have hb : Below w.heap.size w ((w.alloc (.cells #[.int .i64 0, .string ⟨#[]⟩, .int .i64 0, .int .i64 0, .int .i64 0, .int .i64 0, .int .u16 0, .int .i64 0] 41)).alloc (.cells #[.int .i64 0, .string ⟨#[]⟩, .int .i64 0, .int .i64 0, .int .i64 0, .int .i64 0, .int .u16 0, .int .i64 0] 41)) := (below_alloc _ _).alloc (by simp) _
  have h' := h.below hb
  refine ⟨h'.ptr, h'.row, (Holds.new w _ _).alloc _, ?_, fun k => (by cases k), Chg.of_below _ hb⟩
  have := Holds.new (w.alloc (.cells #[.int .i64 0, .string ⟨#[]⟩, .int .i64 0, .int .i64 0, .int .i64 0, .int .i64 0, .int .u16 0, .int .i64 0] 41)) 41 #[.int .i64 0, .string ⟨#[]⟩, .int .i64 0, .int .i64 0, .int .i64 0, .int .i64 0, .int .u16 0, .int .i64 0]
  rwa [size_alloc] at this
theorem PopS.zero (h : PopS w g b room first zs r z n W) (hb : b < w.heap.size) (hne : g ≠ b) (hf : first < zs.length) (hz : z.length = 8) : PopS w g b room first (zs.set first evZ) r z n (W.setRow b (splice (evs zs) (first * 8) (ev8 evZ)).toArray) := by
  rw [evs_set hf]
  have hw := grown_row W b (evs (zs.set first evZ)).toArray
  exact ⟨h.ptr.grown hw (fun e => hne (by cases e; rfl)), h.row.row _, h.res.grown hw (fun e => by cases e; omega), h.non.grown hw (fun e => by cases e; omega), fun k => (h.one k).grown hw (fun e => by cases e; omega),
    h.chg.trans (Chg.of_grown (S := part g b) hw (fun k e => by cases e; exact .inr rfl)) (fun _ _ h => h)⟩
theorem PopS.goes (h : PopS w g b room first zs r z n W) (hg : g < w.heap.size) (hne : g ≠ b) (m : Nat) : PopS w g b room m zs r z n (W.setCell ⟨g, 1, none⟩ (.int .i64 (m : Int))) :=
  ⟨by have := h.ptr.put 1 (.int .i64 (m : Int)); simpa using this, h.row.far (fun e => hne e.symm) _, h.res.far (by omega) _, h.non.far (by omega) _, fun k => (h.one k).far (by omega) _,
    h.chg.trans (Chg.set (S := part g b) _ g 1 _ (.inl rfl)) (fun _ _ h => h)⟩
theorem PopS.count (h : PopS w g b room first zs r z n W) (hg : g < w.heap.size) (hne : g ≠ b) (m : Int) : PopS w g b room first zs r z m (W.setCell ⟨g, 2, none⟩ (.int .i64 m)) :=
  ⟨by have := h.ptr.put 2 (.int .i64 m); simpa using this, h.row.far (fun e => hne e.symm) _, h.res.far (by omega) _, h.non.far (by omega) _, fun k => (h.one k).far (by omega) _,
    h.chg.trans (Chg.set (S := part g b) _ g 2 _ (.inl rfl)) (fun _ _ h => h)⟩
theorem PopS.give (h : PopS w g b room first zs r z n W) (hg : g < w.heap.size) (hb : b < w.heap.size) (y : List Value) : PopS w g b room first zs y z n (W.setRow w.heap.size y.toArray) := by
  have hw := grown_row W w.heap.size y.toArray
  exact ⟨h.ptr.grown hw (fun e => by cases e; omega), h.row.grown hw (fun e => by cases e; omega), h.res.row _, h.non.grown hw (fun e => by simp at e), fun k => (h.one k).grown hw (fun e => by simp at e),
    ⟨hw.os.trans h.chg.os, hw.tape.trans h.chg.tape, hw.output.trans h.chg.output, Nat.le_trans h.chg.size hw.size, fun k hk hS => (hw.block k (Nat.lt_of_lt_of_le hk h.chg.size) (fun e => by cases e; omega)).trans (h.chg.block k hk hS)⟩⟩
theorem PopS.ends (h : R0 w B g b room first zs (x :: L)) (hs : PopS w g b room ((first + 1) % room) (zs.set first evZ) (ev8 x) z L.length W) :
    Popped B g b room x L w (.returned (.tuple #[(.agg #[.int .i64 x.id, .string x.lab, .int .i64 x.loc, .int .i64 x.time, .int .i64 x.hops, .int .i64 x.root, .int .u16 x.boot, .int .i64 x.way]), .bool true])) W := by
  have hlen := h.len
  rw [List.length_cons] at hlen
  exact ⟨rfl, ⟨(first + 1) % room, zs.set first evZ, h.oldg, h.oldb, h.pos, h.le, mod_lt' _ h.pos, by omega, by simpa using h.zl, hs.ptr, hs.row, (ring_pop h.fst h.len h.at').2⟩, hs.chg⟩
end
set_option maxHeartbeats 2000000 in
theorem pop_any (w : World) (B g b room : Nat) (x : Ev) (L : List Ev) (h : Rg w B g b room (x :: L)) :
    Calls Try.prog 21 #[.pointer (some ⟨g, 0, none⟩)] w (Popped B g b room x L w) := by
  obtain ⟨first, zs, h⟩ := h
  have hx := (ring_pop (z := evZ) h.fst h.len h.at').1
  have hm : (first + 1) % room < room := mod_lt' _ h.pos
  have hle := h.le
  have hfr := h.fst
  have hpos := h.pos
  have hne := h.ne
  have hg := h.ptr.lt
  have hbl := h.row.lt
  have hzl := h.zl
  have hst := PopS.start h
  have hlen := len_any _ B g b room (x :: L) ⟨first, zs, h.below (show Below w.heap.size w ((w.alloc (.cells #[.int .i64 0, .string ⟨#[]⟩, .int .i64 0, .int .i64 0, .int .i64 0, .int .i64 0, .int .u16 0, .int .i64 0] 41)).alloc (.cells #[.int .i64 0, .string ⟨#[]⟩, .int .i64 0, .int .i64 0, .int .i64 0, .int .i64 0, .int .u16 0, .int .i64 0] 41)) from (below_alloc _ _).alloc (by simp) _)⟩
  have hend := fun (z : List Value) (W : World) => PopS.ends (z := z) (W := W) h
  have HEnd := Lib.hid hend
  have HS0 := Lib.hid hst
  have HX := Lib.hid (evs_at hx)
  have hnr : L.length + 1 ≤ room := by have := h.len; rwa [List.length_cons] at this
  have hne0 : ((L.length : Int) + 1 == 0) = false := by simp; omega
  have hne1 : (((L.length + 1 : Nat) : Int) == 0) = false := by simp; omega
  have hs0 : ((w.alloc (.cells #[.int .i64 0, .string ⟨#[]⟩, .int .i64 0, .int .i64 0, .int .i64 0, .int .i64 0, .int .u16 0, .int .i64 0] 41)).alloc (.cells #[.int .i64 0, .string ⟨#[]⟩, .int .i64 0, .int .i64 0, .int .i64 0, .int .i64 0, .int .u16 0, .int .i64 0] 41)).heap.size = w.heap.size + 2 := by simp
  rw [List.length_cons] at hlen HS0
  obtain ⟨n, hn⟩ : ∃ n, L.length = n := ⟨_, rfl⟩
  rw [hn] at hlen hne0 hne1 HEnd HS0 hnr
  have e1 : IntKind.i64.wrap (((n + 1 : Nat) : Int) - 1) = (n : Int) := by
    rw [IntWalk.i64_in _ (by omega)]
    omega
  clear h hend hn hx hst
  go_enter Try.func21, Try.ntmps21
  go_upto_region 4 with (go_at_call 22; refine hlen.mono ?_; rintro e wx ⟨rfl, hwx⟩; subst wx)
  clear hlen hne0 hne1
  obtain ⟨W, hW⟩ : ∃ W, (w.alloc (.cells #[.int .i64 0, .string ⟨#[]⟩, .int .i64 0, .int .i64 0, .int .i64 0, .int .i64 0, .int .u16 0, .int .i64 0] 41)).alloc (.cells #[.int .i64 0, .string ⟨#[]⟩, .int .i64 0, .int .i64 0, .int .i64 0, .int .i64 0, .int .u16 0, .int .i64 0] 41) = W := ⟨_, rfl⟩
  rw [hW] at HS0 hs0 ⊢
  clear hW
  refine region_turns (fun (w' : World) => w'.cell? ⟨g, 0, none⟩ = some (.slice (some ⟨b, 0, none⟩) room room) ∧ w'.cell? ⟨g, 1, none⟩ = some (.int .i64 (first : Int)) ∧ Holds w' b 41 (evs zs).toArray) (fun j => decide (12 ≤ j)) (by kernel_rfl) (⟨HS0.out.ptr.cell 0, HS0.out.ptr.cell 1, HS0.out.row⟩) (fun hS => ?_)
  refine Turns.take hS 0 _ rfl (by kernel_rfl) (by kernel_rfl) (by kernel_rfl) (by kernel_rfl) (fun _ _ _ h => h) (by rfl) (fun w' hS' => by (try dsimp only at hS'); go_split_ands; go_simp; (try with_reducible rfl)) ?_
  simp only [Act.put, List.getElem_toArray, List.getElem_cons_succ, List.getElem_cons_zero, List.setIfInBounds_toArray, List.set_cons_zero, List.set_cons_succ]
  refine Turns.take hS 1 _ rfl (by kernel_rfl) (by kernel_rfl) (by kernel_rfl) (by kernel_rfl) (fun _ _ _ h => h) (by rfl) (fun w' hS' => by (try dsimp only at hS'); go_split_ands; go_simp; (try with_reducible rfl)) ?_
  simp only [Act.put, List.getElem_toArray, List.getElem_cons_succ, List.getElem_cons_zero, List.setIfInBounds_toArray, List.set_cons_zero, List.set_cons_succ]
  refine Turns.take hS 2 _ rfl (by kernel_rfl) (by kernel_rfl) (by kernel_rfl) (by kernel_rfl) (fun _ _ _ h => h) (by rfl) (fun w' hS' => by (try dsimp only at hS'); go_split_ands; go_simp; (try with_reducible rfl)) ?_
  simp only [Act.put, List.getElem_toArray, List.getElem_cons_succ, List.getElem_cons_zero, List.setIfInBounds_toArray, List.set_cons_zero, List.set_cons_succ]
  refine Turns.take hS 3 _ rfl (by kernel_rfl) (by kernel_rfl) (by kernel_rfl) (by kernel_rfl) (fun _ _ _ h => h) (by rfl) (fun w' hS' => by (try dsimp only at hS'); go_split_ands; go_simp; (try with_reducible rfl)) ?_
  simp only [Act.put, List.getElem_toArray, List.getElem_cons_succ, List.getElem_cons_zero, List.setIfInBounds_toArray, List.set_cons_zero, List.set_cons_succ]
  refine Turns.take hS 4 _ rfl (by kernel_rfl) (by kernel_rfl) (by kernel_rfl) (by kernel_rfl) (fun _ _ _ h => h) (by rfl) (fun w' hS' => by (try dsimp only at hS'); go_split_ands; go_simp; (try with_reducible rfl)) ?_
  simp only [Act.put, List.getElem_toArray, List.getElem_cons_succ, List.getElem_cons_zero, List.setIfInBounds_toArray, List.set_cons_zero, List.set_cons_succ]
  refine Turns.take hS 5 _ rfl (by kernel_rfl) (by kernel_rfl) (by kernel_rfl) (by kernel_rfl) (fun _ _ _ h => h) (by rfl) (fun w' hS' => by (try dsimp only at hS'); go_split_ands; go_simp; (try with_reducible rfl)) ?_
  simp only [Act.put, List.getElem_toArray, List.getElem_cons_succ, List.getElem_cons_zero, List.setIfInBounds_toArray, List.set_cons_zero, List.set_cons_succ]
  refine Turns.take hS 6 _ rfl (by kernel_rfl) (by kernel_rfl) (by kernel_rfl) (by kernel_rfl) (fun _ _ _ h => h) (by rfl) (fun w' hS' => by (try dsimp only at hS'); go_split_ands; go_simp; (try with_reducible rfl)) ?_
  simp only [Act.put, List.getElem_toArray, List.getElem_cons_succ, List.getElem_cons_zero, List.setIfInBounds_toArray, List.set_cons_zero, List.set_cons_succ]
  refine Turns.take hS 7 _ rfl (by kernel_rfl) (by kernel_rfl) (by kernel_rfl) (by kernel_rfl) (fun _ _ _ h => h) (by rfl) (fun w' hS' => by (try dsimp only at hS'); go_split_ands; go_simp; (try with_reducible rfl)) ?_
  simp only [Act.put, List.getElem_toArray, List.getElem_cons_succ, List.getElem_cons_zero, List.setIfInBounds_toArray, List.set_cons_zero, List.set_cons_succ]
  refine Turns.take hS 8 _ rfl (by kernel_rfl) (by kernel_rfl) (by kernel_rfl) (by kernel_rfl) (fun _ _ _ h => h) (by rfl) (fun w' hS' => by (try dsimp only at hS'); go_split_ands; go_simp; (try with_reducible rfl)) ?_
  simp only [Act.put, List.getElem_toArray, List.getElem_cons_succ, List.getElem_cons_zero, List.setIfInBounds_toArray, List.set_cons_zero, List.set_cons_succ]
  refine Turns.either 9 10 rfl rfl (by kernel_rfl) (by rfl) (by rfl) (fun K hK => ?_) (fun K hK => ?_)
  · simp only [List.getElem_toArray, List.getElem_cons_succ, List.getElem_cons_zero]
    have hS1 := hS
    refine wp_load_in 41 (.tmp 18) rfl b (first * 8) ?hx 41 _ (ev8 x) _ hS1.2.2 HX.out Try.underlying41 rfl (ev_size' x) ?_
    case hx => first | rfl | simp [Act.eval, Act.put]
    refine hK.out _ _ (show (fun (w' : World) => w'.cell? ⟨g, 0, none⟩ = some (.slice (some ⟨b, 0, none⟩) room room) ∧ w'.cell? ⟨g, 1, none⟩ = some (.int .i64 (first : Int)) ∧ Holds w' b 41 (evs zs).toArray) _ from hS1) ?_
    clear hK K hS
    have hS := (show (fun (w' : World) => w'.cell? ⟨g, 0, none⟩ = some (.slice (some ⟨b, 0, none⟩) room room) ∧ w'.cell? ⟨g, 1, none⟩ = some (.int .i64 (first : Int)) ∧ Holds w' b 41 (evs zs).toArray) _ from hS1)
    refine Turns.next 10 rfl (by kernel_rfl) (by rfl) (fun K hK => ?_)
    go_simp
    have hmk := (HS0.out.make hs0).drewN 1
    obtain ⟨V, hV⟩ : ∃ V, (W.alloc (.cells #[.int .i64 0, .string ⟨#[]⟩, .int .i64 0, .int .i64 0, .int .i64 0, .int .i64 0, .int .u16 0, .int .i64 0] 41)).drew = V := ⟨_, rfl⟩
    change PopS w g b room first zs (ev8 evZ) (ev8 evZ) _ (W.alloc (.cells #[.int .i64 0, .string ⟨#[]⟩, .int .i64 0, .int .i64 0, .int .i64 0, .int .i64 0, .int .u16 0, .int .i64 0] 41)).drew at hmk
    rw [hV] at hmk ⊢
    have HM := Lib.hid hmk
    have hS1 : (fun (w' : World) => w'.cell? ⟨g, 0, none⟩ = some (.slice (some ⟨b, 0, none⟩) room room) ∧ w'.cell? ⟨g, 1, none⟩ = some (.int .i64 (first : Int)) ∧ Holds w' b 41 (evs zs).toArray) V := ⟨hmk.ptr.cell 0, hmk.ptr.cell 1, hmk.row⟩
    clear hV hmk
    refine hK.out _ _ (show (fun (w' : World) => w'.cell? ⟨g, 0, none⟩ = some (.slice (some ⟨b, 0, none⟩) room room) ∧ w'.cell? ⟨g, 1, none⟩ = some (.int .i64 (first : Int)) ∧ Holds w' b 41 (evs zs).toArray) _ from hS1) ?_
    clear hK K hS
    have hS := (show (fun (w' : World) => w'.cell? ⟨g, 0, none⟩ = some (.slice (some ⟨b, 0, none⟩) room room) ∧ w'.cell? ⟨g, 1, none⟩ = some (.int .i64 (first : Int)) ∧ Holds w' b 41 (evs zs).toArray) _ from hS1)
    refine Turns.next 11 rfl (by kernel_rfl) (by rfl) (fun K hK => ?_)
    simp only [List.getElem_toArray, List.getElem_cons_succ, List.getElem_cons_zero]
    have h5 := HM.out.one rfl
    refine wp_store_at 41 (.tmp 5) (.tmp 19) rfl (w.heap.size + 2) 0 (ev8 x) ?hs ?hx 41 (ev8 evZ) h5 (ev_size' x) (Nat.le_refl 8) (ev8_one x) ?_
    case hs => first | rfl | simp [Act.eval, Act.put]
    case hx => first | rfl | simp [Act.eval, Act.put, ev8]
    rw [splice_all (ev8 evZ) (ev8 x) rfl]
    have hmk := HM.out.lay rfl (ev8 x) hg hbl
    obtain ⟨V5, hV⟩ : ∃ V5, V.setRow (w.heap.size + 2) (ev8 x).toArray = V5 := ⟨_, rfl⟩
    rw [hV] at hmk ⊢
    have HM5 := Lib.hid hmk
    have hS1 : (fun (w' : World) => w'.cell? ⟨g, 0, none⟩ = some (.slice (some ⟨b, 0, none⟩) room room) ∧ w'.cell? ⟨g, 1, none⟩ = some (.int .i64 (first : Int)) ∧ Holds w' b 41 (evs zs).toArray) V5 := ⟨hmk.ptr.cell 0, hmk.ptr.cell 1, hmk.row⟩
    clear hV hmk h5 HM
    refine hK.out _ _ (show (fun (w' : World) => w'.cell? ⟨g, 0, none⟩ = some (.slice (some ⟨b, 0, none⟩) room room) ∧ w'.cell? ⟨g, 1, none⟩ = some (.int .i64 (first : Int)) ∧ Holds w' b 41 (evs zs).toArray) _ from hS1) ?_
    clear hK K hS
    have hS := (show (fun (w' : World) => w'.cell? ⟨g, 0, none⟩ = some (.slice (some ⟨b, 0, none⟩) room room) ∧ w'.cell? ⟨g, 1, none⟩ = some (.int .i64 (first : Int)) ∧ Holds w' b 41 (evs zs).toArray) _ from hS1)
    refine Turns.rest (late_done (by kernel_rfl)) ?_
    refine any_tail 12 (by rfl) (by kernel_rfl) ?_
    simp only [List.drop_succ_cons, List.drop_zero]
    clear hS
    clear HS0 HX
    go_upto_region 5 with (fail)
    have HM6 : Hid (PopS _ _ _ _ _ _ _ _ _ V5.drew) := Lib.hid (HM5.out.drewN 1)
    clear HM5
    refine region_turns (fun (w' : World) => w'.cell? ⟨g, 0, none⟩ = some (.slice (some ⟨b, 0, none⟩) room room) ∧ w'.cell? ⟨g, 1, none⟩ = some (.int .i64 (first : Int))) (fun j => decide (11 ≤ j)) (by kernel_rfl) (⟨HM6.out.ptr.cell 0, HM6.out.ptr.cell 1⟩) (fun hS => ?_)
    refine Turns.take hS 0 _ rfl (by kernel_rfl) (by kernel_rfl) (by kernel_rfl) (by kernel_rfl) (fun _ _ _ h => h) (by rfl) (fun w' hS' => by (try dsimp only at hS'); go_split_ands; go_simp; (try with_reducible rfl)) ?_
    simp only [Act.put, List.getElem_toArray, List.getElem_cons_succ, List.getElem_cons_zero, List.setIfInBounds_toArray, List.set_cons_zero, List.set_cons_succ]
    refine Turns.take hS 1 _ rfl (by kernel_rfl) (by kernel_rfl) (by kernel_rfl) (by kernel_rfl) (fun _ _ _ h => h) (by rfl) (fun w' hS' => by (try dsimp only at hS'); go_split_ands; go_simp; (try with_reducible rfl)) ?_
    simp only [Act.put, List.getElem_toArray, List.getElem_cons_succ, List.getElem_cons_zero, List.setIfInBounds_toArray, List.set_cons_zero, List.set_cons_succ]
    refine Turns.take hS 2 _ rfl (by kernel_rfl) (by kernel_rfl) (by kernel_rfl) (by kernel_rfl) (fun _ _ _ h => h) (by rfl) (fun w' hS' => by (try dsimp only at hS'); go_split_ands; go_simp; (try with_reducible rfl)) ?_
    simp only [Act.put, List.getElem_toArray, List.getElem_cons_succ, List.getElem_cons_zero, List.setIfInBounds_toArray, List.set_cons_zero, List.set_cons_succ]
    refine Turns.take hS 3 _ rfl (by kernel_rfl) (by kernel_rfl) (by kernel_rfl) (by kernel_rfl) (fun _ _ _ h => h) (by rfl) (fun w' hS' => by (try dsimp only at hS'); go_split_ands; go_simp; (try with_reducible rfl)) ?_
    simp only [Act.put, List.getElem_toArray, List.getElem_cons_succ, List.getElem_cons_zero, List.setIfInBounds_toArray, List.set_cons_zero, List.set_cons_succ]
    refine Turns.take hS 4 _ rfl (by kernel_rfl) (by kernel_rfl) (by kernel_rfl) (by kernel_rfl) (fun _ _ _ h => h) (by rfl) (fun w' hS' => by (try dsimp only at hS'); go_split_ands; go_simp; (try with_reducible rfl)) ?_
    simp only [Act.put, List.getElem_toArray, List.getElem_cons_succ, List.getElem_cons_zero, List.setIfInBounds_toArray, List.set_cons_zero, List.set_cons_succ]
    refine Turns.take hS 5 _ rfl (by kernel_rfl) (by kernel_rfl) (by kernel_rfl) (by kernel_rfl) (fun _ _ _ h => h) (by rfl) (fun w' hS' => by (try dsimp only at hS'); go_split_ands; go_simp; (try with_reducible rfl)) ?_
    simp only [Act.put, List.getElem_toArray, List.getElem_cons_succ, List.getElem_cons_zero, List.setIfInBounds_toArray, List.set_cons_zero, List.set_cons_succ]
    refine Turns.take hS 6 _ rfl (by kernel_rfl) (by kernel_rfl) (by kernel_rfl) (by kernel_rfl) (fun _ _ _ h => h) (by rfl) (fun w' hS' => by (try dsimp only at hS'); go_split_ands; go_simp; (try with_reducible rfl)) ?_
    simp only [Act.put, List.getElem_toArray, List.getElem_cons_succ, List.getElem_cons_zero, List.setIfInBounds_toArray, List.set_cons_zero, List.set_cons_succ]
    refine Turns.take hS 7 _ rfl (by kernel_rfl) (by kernel_rfl) (by kernel_rfl) (by kernel_rfl) (fun _ _ _ h => h) (by rfl) (fun w' hS' => by (try dsimp only at hS'); go_split_ands; go_simp; (try with_reducible rfl)) ?_
    simp only [Act.put, List.getElem_toArray, List.getElem_cons_succ, List.getElem_cons_zero, List.setIfInBounds_toArray, List.set_cons_zero, List.set_cons_succ]
    refine Turns.next 8 rfl (by kernel_rfl) (by rfl) (fun K hK => ?_)
    simp only [List.getElem_toArray, List.getElem_cons_succ, List.getElem_cons_zero]
    have hS1 := hS
    refine wp_load_in 41 (.tmp 4) rfl (w.heap.size + 1) 0 ?hx 41 _ (ev8 evZ) _ HM6.out.non (ev8_at evZ) Try.underlying41 rfl (ev_size' evZ) ?_
    case hx => first | rfl | simp [Act.eval, Act.put]
    refine hK.out _ _ (show (fun (w' : World) => w'.cell? ⟨g, 0, none⟩ = some (.slice (some ⟨b, 0, none⟩) room room) ∧ w'.cell? ⟨g, 1, none⟩ = some (.int .i64 (first : Int))) _ from hS1) ?_
    clear hK K hS
    have hS := (show (fun (w' : World) => w'.cell? ⟨g, 0, none⟩ = some (.slice (some ⟨b, 0, none⟩) room room) ∧ w'.cell? ⟨g, 1, none⟩ = some (.int .i64 (first : Int))) _ from hS1)
    refine Turns.take hS 9 _ rfl (by kernel_rfl) (by kernel_rfl) (by kernel_rfl) (by kernel_rfl) (fun _ _ _ h => h) (by rfl) (fun w' hS' => by (try dsimp only at hS'); go_split_ands; go_simp; (try with_reducible rfl)) ?_
    simp only [Act.put, List.getElem_toArray, List.getElem_cons_succ, List.getElem_cons_zero, List.setIfInBounds_toArray, List.set_cons_zero, List.set_cons_succ]
    refine Turns.next 10 rfl (by kernel_rfl) (by rfl) (fun K hK => ?_)
    simp only [List.getElem_toArray, List.getElem_cons_succ, List.getElem_cons_zero]
    have hS1 := hS
    refine wp_store_at 41 (.tmp 29) (.tmp 28) rfl b (first * 8) (ev8 evZ) ?hs ?hx 41 (evs zs) HM6.out.row (ev_size' evZ) (by rw [evs_len]; show first * 8 + 8 ≤ _; omega) (ev8_one evZ) ?_
    case hs => first | rfl | simp [Act.eval, Act.put]
    case hx => first | rfl | simp [Act.eval, Act.put, ev8]
    have hmk := HM6.out.zero hbl hne (by omega) rfl
    obtain ⟨V7, hV⟩ : ∃ V7, V5.drew.setRow b (splice (evs zs) (first * 8) (ev8 evZ)).toArray = V7 := ⟨_, rfl⟩
    rw [hV] at hmk ⊢
    have HM7 := Lib.hid hmk
    have hS1 : (fun (w' : World) => w'.cell? ⟨g, 0, none⟩ = some (.slice (some ⟨b, 0, none⟩) room room) ∧ w'.cell? ⟨g, 1, none⟩ = some (.int .i64 (first : Int))) V7 := ⟨hmk.ptr.cell 0, hmk.ptr.cell 1⟩
    clear hV hmk
    refine hK.out _ _ (show (fun (w' : World) => w'.cell? ⟨g, 0, none⟩ = some (.slice (some ⟨b, 0, none⟩) room room) ∧ w'.cell? ⟨g, 1, none⟩ = some (.int .i64 (first : Int))) _ from hS1) ?_
    clear hK K hS
    have hS := (show (fun (w' : World) => w'.cell? ⟨g, 0, none⟩ = some (.slice (some ⟨b, 0, none⟩) room room) ∧ w'.cell? ⟨g, 1, none⟩ = some (.int .i64 (first : Int))) _ from hS1)
    refine Turns.rest (late_done (by kernel_rfl)) ?_
    refine any_tail 11 (by rfl) (by kernel_rfl) ?_
    simp only [List.drop_succ_cons, List.drop_zero]
    clear hS
    have hcell := cell_any V7 g b room first _ HM7.out.ptr hpos hle hfr 1 (by omega)
    have h1g := (HM7.out.ptr.cell 1)
    have HM8 := fun (m : Nat) => ((HM7.out.drewN m).goes hg hne ((first + 1) % room))
    have HM9 := fun (m : Nat) => ((HM7.out.drewN m).ptr.soft 1)
    obtain ⟨I, hI⟩ : ∃ I, (first + 1) % room = I := ⟨_, rfl⟩
    rw [hI] at hm hcell HEnd
    simp only [hI] at HM8
    clear hI h1g HM6
    go_upto_region 7 with (go_at_call 25; refine hcell.mono ?_; rintro e w2 ⟨rfl, m, hw2⟩; have f21 := HM9 m; have c21 := (HM7.out.drewN m).ptr.cell 1; have HMa := Lib.hid (HM8 m); rw [← hw2] at f21 c21 HMa; clear HM8 HM9 hw2)
    obtain ⟨V8, hV8⟩ : ∃ V8, w2.setCell ⟨g, 1, none⟩ (.int .i64 (I : Int)) = V8 := ⟨_, rfl⟩
    rw [hV8] at HMa ⊢
    have c32 := HMa.out.ptr.cell 2
    have f32 := HMa.out.ptr.soft 2
    have HMb := Lib.hid (HMa.out.count hg hne (n : Int))
    clear hV8 hcell f21 c21 HM7
    go_upto_region 8 with (fail)
    obtain ⟨V9, hV9⟩ : ∃ V9, V8.setCell ⟨g, 2, none⟩ (.int .i64 (n : Int)) = V9 := ⟨_, rfl⟩
    rw [hV9] at HMb ⊢
    have HMc := Lib.hid (HMb.out.give hg hbl (ev8 x))
    clear hV9 c32 f32 HMa
    go_wp2_with (first
      | (refine wpList_load_at rfl 41 (.tmp 5) rfl (w.heap.size + 2) 0 rfl 41 _ (ev8 x) _ (HMb.out.one rfl) (ev8_at x) Try.underlying41 rfl (ev_size' x) ?_)
      | (refine wpList_store_at rfl 41 (.tmp 2) (.tmp 42) rfl w.heap.size 0 (ev8 x) rfl rfl 41 (ev8 evZ) HMb.out.res (ev_size' x) (Nat.le_refl 8) (ev8_one x) ?_; rw [splice_all (ev8 evZ) (ev8 x) rfl]))
    refine bodyPost_ret (results_row_tmp rfl _ _ w.heap.size 41 (ev8 x) _ _ rfl HMc.out.res Try.underlying41 rfl (ev_size' x) rfl) rfl ?_
    exact HEnd.out _ _ HMc.out

  · go_simp
    have hmk := (HS0.out.make hs0).drewN 1
    obtain ⟨V, hV⟩ : ∃ V, (W.alloc (.cells #[.int .i64 0, .string ⟨#[]⟩, .int .i64 0, .int .i64 0, .int .i64 0, .int .i64 0, .int .u16 0, .int .i64 0] 41)).drew = V := ⟨_, rfl⟩
    change PopS w g b room first zs (ev8 evZ) (ev8 evZ) _ (W.alloc (.cells #[.int .i64 0, .string ⟨#[]⟩, .int .i64 0, .int .i64 0, .int .i64 0, .int .i64 0, .int .u16 0, .int .i64 0] 41)).drew at hmk
    rw [hV] at hmk ⊢
    have HM := Lib.hid hmk
    have hS1 : (fun (w' : World) => w'.cell? ⟨g, 0, none⟩ = some (.slice (some ⟨b, 0, none⟩) room room) ∧ w'.cell? ⟨g, 1, none⟩ = some (.int .i64 (first : Int)) ∧ Holds w' b 41 (evs zs).toArray) V := ⟨hmk.ptr.cell 0, hmk.ptr.cell 1, hmk.row⟩
    clear hV hmk
    refine hK.out _ _ (show (fun (w' : World) => w'.cell? ⟨g, 0, none⟩ = some (.slice (some ⟨b, 0, none⟩) room room) ∧ w'.cell? ⟨g, 1, none⟩ = some (.int .i64 (first : Int)) ∧ Holds w' b 41 (evs zs).toArray) _ from hS1) ?_
    clear hK K hS
    have hS := (show (fun (w' : World) => w'.cell? ⟨g, 0, none⟩ = some (.slice (some ⟨b, 0, none⟩) room room) ∧ w'.cell? ⟨g, 1, none⟩ = some (.int .i64 (first : Int)) ∧ Holds w' b 41 (evs zs).toArray) _ from hS1)
    refine Turns.next 9 rfl (by kernel_rfl) (by rfl) (fun K hK => ?_)
    simp only [List.getElem_toArray, List.getElem_cons_succ, List.getElem_cons_zero]
    have hS1 := hS
    refine wp_load_in 41 (.tmp 18) rfl b (first * 8) ?hx 41 _ (ev8 x) _ hS1.2.2 HX.out Try.underlying41 rfl (ev_size' x) ?_
    case hx => first | rfl | simp [Act.eval, Act.put]
    refine hK.out _ _ (show (fun (w' : World) => w'.cell? ⟨g, 0, none⟩ = some (.slice (some ⟨b, 0, none⟩) room room) ∧ w'.cell? ⟨g, 1, none⟩ = some (.int .i64 (first : Int)) ∧ Holds w' b 41 (evs zs).toArray) _ from hS1) ?_
    clear hK K hS
    have hS := (show (fun (w' : World) => w'.cell? ⟨g, 0, none⟩ = some (.slice (some ⟨b, 0, none⟩) room room) ∧ w'.cell? ⟨g, 1, none⟩ = some (.int .i64 (first : Int)) ∧ Holds w' b 41 (evs zs).toArray) _ from hS1)
    refine Turns.next 11 rfl (by kernel_rfl) (by rfl) (fun K hK => ?_)
    simp only [List.getElem_toArray, List.getElem_cons_succ, List.getElem_cons_zero]
    have h5 := HM.out.one rfl
    refine wp_store_at 41 (.tmp 5) (.tmp 19) rfl (w.heap.size + 2) 0 (ev8 x) ?hs ?hx 41 (ev8 evZ) h5 (ev_size' x) (Nat.le_refl 8) (ev8_one x) ?_
    case hs => first | rfl | simp [Act.eval, Act.put]
    case hx => first | rfl | simp [Act.eval, Act.put, ev8]
    rw [splice_all (ev8 evZ) (ev8 x) rfl]
    have hmk := HM.out.lay rfl (ev8 x) hg hbl
    obtain ⟨V5, hV⟩ : ∃ V5, V.setRow (w.heap.size + 2) (ev8 x).toArray = V5 := ⟨_, rfl⟩
    rw [hV] at hmk ⊢
    have HM5 := Lib.hid hmk
    have hS1 : (fun (w' : World) => w'.cell? ⟨g, 0, none⟩ = some (.slice (some ⟨b, 0, none⟩) room room) ∧ w'.cell? ⟨g, 1, none⟩ = some (.int .i64 (first : Int)) ∧ Holds w' b 41 (evs zs).toArray) V5 := ⟨hmk.ptr.cell 0, hmk.ptr.cell 1, hmk.row⟩
    clear hV hmk h5 HM
    refine hK.out _ _ (show (fun (w' : World) => w'.cell? ⟨g, 0, none⟩ = some (.slice (some ⟨b, 0, none⟩) room room) ∧ w'.cell? ⟨g, 1, none⟩ = some (.int .i64 (first : Int)) ∧ Holds w' b 41 (evs zs).toArray) _ from hS1) ?_
    clear hK K hS
    have hS := (show (fun (w' : World) => w'.cell? ⟨g, 0, none⟩ = some (.slice (some ⟨b, 0, none⟩) room room) ∧ w'.cell? ⟨g, 1, none⟩ = some (.int .i64 (first : Int)) ∧ Holds w' b 41 (evs zs).toArray) _ from hS1)
    refine Turns.rest (late_done (by kernel_rfl)) ?_
    refine any_tail 12 (by rfl) (by kernel_rfl) ?_
    simp only [List.drop_succ_cons, List.drop_zero]
    clear hS
    clear HS0 HX
    go_upto_region 5 with (fail)
    have HM6 : Hid (PopS _ _ _ _ _ _ _ _ _ V5.drew) := Lib.hid (HM5.out.drewN 1)
    clear HM5
    refine region_turns (fun (w' : World) => w'.cell? ⟨g, 0, none⟩ = some (.slice (some ⟨b, 0, none⟩) room room) ∧ w'.cell? ⟨g, 1, none⟩ = some (.int .i64 (first : Int))) (fun j => decide (11 ≤ j)) (by kernel_rfl) (⟨HM6.out.ptr.cell 0, HM6.out.ptr.cell 1⟩) (fun hS => ?_)
    refine Turns.take hS 0 _ rfl (by kernel_rfl) (by kernel_rfl) (by kernel_rfl) (by kernel_rfl) (fun _ _ _ h => h) (by rfl) (fun w' hS' => by (try dsimp only at hS'); go_split_ands; go_simp; (try with_reducible rfl)) ?_
    simp only [Act.put, List.getElem_toArray, List.getElem_cons_succ, List.getElem_cons_zero, List.setIfInBounds_toArray, List.set_cons_zero, List.set_cons_succ]
    refine Turns.take hS 1 _ rfl (by kernel_rfl) (by kernel_rfl) (by kernel_rfl) (by kernel_rfl) (fun _ _ _ h => h) (by rfl) (fun w' hS' => by (try dsimp only at hS'); go_split_ands; go_simp; (try with_reducible rfl)) ?_
    simp only [Act.put, List.getElem_toArray, List.getElem_cons_succ, List.getElem_cons_zero, List.setIfInBounds_toArray, List.set_cons_zero, List.set_cons_succ]
    refine Turns.take hS 2 _ rfl (by kernel_rfl) (by kernel_rfl) (by kernel_rfl) (by kernel_rfl) (fun _ _ _ h => h) (by rfl) (fun w' hS' => by (try dsimp only at hS'); go_split_ands; go_simp; (try with_reducible rfl)) ?_
    simp only [Act.put, List.getElem_toArray, List.getElem_cons_succ, List.getElem_cons_zero, List.setIfInBounds_toArray, List.set_cons_zero, List.set_cons_succ]
    refine Turns.take hS 3 _ rfl (by kernel_rfl) (by kernel_rfl) (by kernel_rfl) (by kernel_rfl) (fun _ _ _ h => h) (by rfl) (fun w' hS' => by (try dsimp only at hS'); go_split_ands; go_simp; (try with_reducible rfl)) ?_
    simp only [Act.put, List.getElem_toArray, List.getElem_cons_succ, List.getElem_cons_zero, List.setIfInBounds_toArray, List.set_cons_zero, List.set_cons_succ]
    refine Turns.take hS 4 _ rfl (by kernel_rfl) (by kernel_rfl) (by kernel_rfl) (by kernel_rfl) (fun _ _ _ h => h) (by rfl) (fun w' hS' => by (try dsimp only at hS'); go_split_ands; go_simp; (try with_reducible rfl)) ?_
    simp only [Act.put, List.getElem_toArray, List.getElem_cons_succ, List.getElem_cons_zero, List.setIfInBounds_toArray, List.set_cons_zero, List.set_cons_succ]
    refine Turns.take hS 5 _ rfl (by kernel_rfl) (by kernel_rfl) (by kernel_rfl) (by kernel_rfl) (fun _ _ _ h => h) (by rfl) (fun w' hS' => by (try dsimp only at hS'); go_split_ands; go_simp; (try with_reducible rfl)) ?_
    simp only [Act.put, List.getElem_toArray, List.getElem_cons_succ, List.getElem_cons_zero, List.setIfInBounds_toArray, List.set_cons_zero, List.set_cons_succ]
    refine Turns.take hS 6 _ rfl (by kernel_rfl) (by kernel_rfl) (by kernel_rfl) (by kernel_rfl) (fun _ _ _ h => h) (by rfl) (fun w' hS' => by (try dsimp only at hS'); go_split_ands; go_simp; (try with_reducible rfl)) ?_
    simp only [Act.put, List.getElem_toArray, List.getElem_cons_succ, List.getElem_cons_zero, List.setIfInBounds_toArray, List.set_cons_zero, List.set_cons_succ]
    refine Turns.take hS 7 _ rfl (by kernel_rfl) (by kernel_rfl) (by kernel_rfl) (by kernel_rfl) (fun _ _ _ h => h) (by rfl) (fun w' hS' => by (try dsimp only at hS'); go_split_ands; go_simp; (try with_reducible rfl)) ?_
    simp only [Act.put, List.getElem_toArray, List.getElem_cons_succ, List.getElem_cons_zero, List.setIfInBounds_toArray, List.set_cons_zero, List.set_cons_succ]
    refine Turns.next 8 rfl (by kernel_rfl) (by rfl) (fun K hK => ?_)
    simp only [List.getElem_toArray, List.getElem_cons_succ, List.getElem_cons_zero]
    have hS1 := hS
    refine wp_load_in 41 (.tmp 4) rfl (w.heap.size + 1) 0 ?hx 41 _ (ev8 evZ) _ HM6.out.non (ev8_at evZ) Try.underlying41 rfl (ev_size' evZ) ?_
    case hx => first | rfl | simp [Act.eval, Act.put]
    refine hK.out _ _ (show (fun (w' : World) => w'.cell? ⟨g, 0, none⟩ = some (.slice (some ⟨b, 0, none⟩) room room) ∧ w'.cell? ⟨g, 1, none⟩ = some (.int .i64 (first : Int))) _ from hS1) ?_
    clear hK K hS
    have hS := (show (fun (w' : World) => w'.cell? ⟨g, 0, none⟩ = some (.slice (some ⟨b, 0, none⟩) room room) ∧ w'.cell? ⟨g, 1, none⟩ = some (.int .i64 (first : Int))) _ from hS1)
    refine Turns.take hS 9 _ rfl (by kernel_rfl) (by kernel_rfl) (by kernel_rfl) (by kernel_rfl) (fun _ _ _ h => h) (by rfl) (fun w' hS' => by (try dsimp only at hS'); go_split_ands; go_simp; (try with_reducible rfl)) ?_
    simp only [Act.put, List.getElem_toArray, List.getElem_cons_succ, List.getElem_cons_zero, List.setIfInBounds_toArray, List.set_cons_zero, List.set_cons_succ]
    refine Turns.next 10 rfl (by kernel_rfl) (by rfl) (fun K hK => ?_)
    simp only [List.getElem_toArray, List.getElem_cons_succ, List.getElem_cons_zero]
    have hS1 := hS
    refine wp_store_at 41 (.tmp 29) (.tmp 28) rfl b (first * 8) (ev8 evZ) ?hs ?hx 41 (evs zs) HM6.out.row (ev_size' evZ) (by rw [evs_len]; show first * 8 + 8 ≤ _; omega) (ev8_one evZ) ?_
    case hs => first | rfl | simp [Act.eval, Act.put]
    case hx => first | rfl | simp [Act.eval, Act.put, ev8]
    have hmk := HM6.out.zero hbl hne (by omega) rfl
    obtain ⟨V7, hV⟩ : ∃ V7, V5.drew.setRow b (splice (evs zs) (first * 8) (ev8 evZ)).toArray = V7 := ⟨_, rfl⟩
    rw [hV] at hmk ⊢
    have HM7 := Lib.hid hmk
    have hS1 : (fun (w' : World) => w'.cell? ⟨g, 0, none⟩ = some (.slice (some ⟨b, 0, none⟩) room room) ∧ w'.cell? ⟨g, 1, none⟩ = some (.int .i64 (first : Int))) V7 := ⟨hmk.ptr.cell 0, hmk.ptr.cell 1⟩
    clear hV hmk
    refine hK.out _ _ (show (fun (w' : World) => w'.cell? ⟨g, 0, none⟩ = some (.slice (some ⟨b, 0, none⟩) room room) ∧ w'.cell? ⟨g, 1, none⟩ = some (.int .i64 (first : Int))) _ from hS1) ?_
    clear hK K hS
    have hS := (show (fun (w' : World) => w'.cell? ⟨g, 0, none⟩ = some (.slice (some ⟨b, 0, none⟩) room room) ∧ w'.cell? ⟨g, 1, none⟩ = some (.int .i64 (first : Int))) _ from hS1)
    refine Turns.rest (late_done (by kernel_rfl)) ?_
    refine any_tail 11 (by rfl) (by kernel_rfl) ?_
    simp only [List.drop_succ_cons, List.drop_zero]
    clear hS
    have hcell := cell_any V7 g b room first _ HM7.out.ptr hpos hle hfr 1 (by omega)
    have h1g := (HM7.out.ptr.cell 1)
    have HM8 := fun (m : Nat) => ((HM7.out.drewN m).goes hg hne ((first + 1) % room))
    have HM9 := fun (m : Nat) => ((HM7.out.drewN m).ptr.soft 1)
    obtain ⟨I, hI⟩ : ∃ I, (first + 1) % room = I := ⟨_, rfl⟩
    rw [hI] at hm hcell HEnd
    simp only [hI] at HM8
    clear hI h1g HM6
    go_upto_region 7 with (go_at_call 25; refine hcell.mono ?_; rintro e w2 ⟨rfl, m, hw2⟩; have f21 := HM9 m; have c21 := (HM7.out.drewN m).ptr.cell 1; have HMa := Lib.hid (HM8 m); rw [← hw2] at f21 c21 HMa; clear HM8 HM9 hw2)
    obtain ⟨V8, hV8⟩ : ∃ V8, w2.setCell ⟨g, 1, none⟩ (.int .i64 (I : Int)) = V8 := ⟨_, rfl⟩
    rw [hV8] at HMa ⊢
    have c32 := HMa.out.ptr.cell 2
    have f32 := HMa.out.ptr.soft 2
    have HMb := Lib.hid (HMa.out.count hg hne (n : Int))
    clear hV8 hcell f21 c21 HM7
    go_upto_region 8 with (fail)
    obtain ⟨V9, hV9⟩ : ∃ V9, V8.setCell ⟨g, 2, none⟩ (.int .i64 (n : Int)) = V9 := ⟨_, rfl⟩
    rw [hV9] at HMb ⊢
    have HMc := Lib.hid (HMb.out.give hg hbl (ev8 x))
    clear hV9 c32 f32 HMa
    go_wp2_with (first
      | (refine wpList_load_at rfl 41 (.tmp 5) rfl (w.heap.size + 2) 0 rfl 41 _ (ev8 x) _ (HMb.out.one rfl) (ev8_at x) Try.underlying41 rfl (ev_size' x) ?_)
      | (refine wpList_store_at rfl 41 (.tmp 2) (.tmp 42) rfl w.heap.size 0 (ev8 x) rfl rfl 41 (ev8 evZ) HMb.out.res (ev_size' x) (Nat.le_refl 8) (ev8_one x) ?_; rw [splice_all (ev8 evZ) (ev8 x) rfl]))
    refine bodyPost_ret (results_row_tmp rfl _ _ w.heap.size 41 (ev8 x) _ _ rfl HMc.out.res Try.underlying41 rfl (ev_size' x) rfl) rfl ?_
    exact HEnd.out _ _ HMc.out

theorem clear_nil (w : World) : Calls Try.prog 18 #[.pointer none] w fun e w' => e = .returned (.tuple #[]) ∧ w' = w := by
  go_enter Try.func18, Try.ntmps18
  go_wp2
  refine bodyPost_ret (results_none rfl _ _ _) rfl ?_
  exact ⟨rfl, rfl⟩
theorem zeros_ev (n : Nat) : (Builtin.zeroCells (Value.agg (ev8 evZ).toArray).cells n).toList = evs (List.replicate n evZ) := evs_rep n _ rfl
/-- Behind a Clear. -/
def Cleared (B g b room : Nat) (w : World) (e : Ending) (w' : World) : Prop := e = .returned (.tuple #[]) ∧ Rg w' B g b room [] ∧ Chg (part g b) w w'
theorem clear_any (w : World) (B g b room : Nat) (L : List Ev) (h : Rg w B g b room L) :
    Calls Try.prog 18 #[.pointer (some ⟨g, 0, none⟩)] w (Cleared B g b room w) := by
  obtain ⟨first, zs, h⟩ := h
  have hz := h.zl
  have hzero : ∀ w, (zeroValue 41).run Try.prog w = .ok (.agg (ev8 evZ).toArray) w := fun _ => rfl
  have hrun := fun ty => run_clearK (P := Try.prog) w 54 41 ty (.agg (ev8 evZ).toArray) Try.underlying54 hzero b 0 room room h.pos (evs zs) 41 h.row
    (by rw [← Array.length_toList, zeros_ev, evs_len, evs_len, List.length_replicate, hz]; omega) (by rw [zeros_ev]; exact evs_one _)
  have e0 : (splice (evs zs) 0 (Builtin.zeroCells (Value.agg (ev8 evZ).toArray).cells room).toList).toArray = (evs (List.replicate room evZ)).toArray := by
    rw [zeros_ev, splice_all _ _ (by rw [evs_len, evs_len, List.length_replicate, hz])]
  rw [e0] at hrun
  have hb : Chg (part g b) w (w.setRow b (evs (List.replicate room evZ)).toArray) := Chg.of_grown (grown_row w b _) (fun k e => by cases e; exact .inr rfl)
  have hne := h.ne
  have p1 : Holds (w.setRow b (evs (List.replicate room evZ)).toArray) g 67 _ := h.ptr.grown (grown_row w b _) (fun e => hne (by simpa using e))
  have r1 := h.row.row (evs (List.replicate room evZ)).toArray
  have hend : Cleared B g b room w (.returned (.tuple #[])) (((w.setRow b (evs (List.replicate room evZ)).toArray).setCell ⟨g, 1, none⟩ (.int .i64 0)).setCell ⟨g, 2, none⟩ (.int .i64 0)) := by
    refine ⟨rfl, ⟨0, List.replicate room evZ, h.oldg, h.oldb, h.pos, h.le, h.pos, Nat.zero_le _, by simp, ?_, ?_, fun i hi => absurd hi (Nat.not_lt_zero _)⟩,
      (hb.trans (Chg.set (S := part g b) _ g 1 _ (.inl rfl)) (fun _ _ h => h)).trans (Chg.set (S := part g b) _ g 2 _ (.inl rfl)) (fun _ _ h => h)⟩
    · have := (p1.put 1 (.int .i64 0)).put 2 (.int .i64 0)
      simpa using this
    · exact (r1.far (fun e => hne e.symm) _).far (fun e => hne e.symm) _
  have HEnd := Lib.hid hend
  have c0 := h.ptr.cell 0
  have c1 := p1.cell 1
  have f1 := p1.soft 1
  have p2 := p1.put 1 (.int .i64 0)
  have c2 := p2.cell 2
  have f2 := p2.soft 2
  obtain ⟨W, hW⟩ : ∃ W, w.setRow b (evs (List.replicate room evZ)).toArray = W := ⟨_, rfl⟩
  rw [hW] at hrun c1 f1 c2 f2 HEnd
  clear p1 p2 r1 hb hend hW e0 h hne
  go_enter Try.func18, Try.ntmps18
  go_wp2
  go_end0
  exact HEnd.out

theorem e_info : (Try.prog.info? 41).map (fun i => (i.zero, i.size, i.bytes)) = some (some (.agg #[.int .i64 0, .string ⟨#[]⟩, .int .i64 0, .int .i64 0, .int .i64 0, .int .i64 0, .int .u16 0, .int .i64 0]), 8, 72) := by kernel_rfl
theorem make_rows (n k : Nat) (hk : k ≤ n) (hn : n ≤ 64) (w : World) : (Instr.makeSlice 54 (.int .i64 (k : Int)) (.int .i64 (n : Int))).run Try.prog w = .ok (.slice (some ⟨w.heap.size, 0, none⟩) k n) (w.alloc (.cells (evs (List.replicate n evZ)).toArray 41)) := by
  obtain ⟨i, hi, hzz⟩ := Option.map_eq_some_iff.1 e_info
  simp only [Prod.mk.injEq] at hzz
  obtain ⟨hz, hs, hb⟩ := hzz
  have hr := run_make (P := Try.prog) w 54 41 i _ Try.underlying54 hi hz .i64 .i64 k n (by omega) (by omega) (by rw [hb]; omega) (by omega)
  simp only [Int.toNat_natCast, hs] at hr
  have he : madeCells (Value.agg #[.int .i64 0, .string ⟨#[]⟩, .int .i64 0, .int .i64 0, .int .i64 0, .int .i64 0, .int .u16 0, .int .i64 0]).cells (n * 8) = (evs (List.replicate n evZ)).toArray := by
    rw [← evs_rep n #[.int .i64 0, .string ⟨#[]⟩, .int .i64 0, .int .i64 0, .int .i64 0, .int .i64 0, .int .u16 0, .int .i64 0] rfl]
    rfl
  rw [hr, he]
theorem new_any (w : World) (n : Nat) (h1 : 1 ≤ n) (h2 : n ≤ 64) : Calls Try.prog 17 #[.int .i64 n] w fun e w' => e = .returned (.tuple #[.pointer (some ⟨w.heap.size + 1, 0, none⟩), .int .i64 0]) ∧ Rg w' w.heap.size (w.heap.size + 1) w.heap.size n [] ∧ Below w.heap.size w w' ∧ w'.heap.size = w.heap.size + 2 := by
  have hmk := make_rows n n (Nat.le_refl _) h2
  have d1 : decide ((n : Int) < 1) = false := decide_eq_false (by omega)
  have d2 : decide (64 < (n : Int)) = false := decide_eq_false (by omega)
  go_enter Try.func17, Try.ntmps17
  go_wp2
  go_ret2
  refine ⟨by simp, ⟨0, List.replicate n evZ, by omega, Nat.le_refl _, h1, h2, h1, Nat.zero_le _, by simp, ?_, ?_, fun i hi => absurd hi (Nat.not_lt_zero _)⟩, (below_alloc _ _).alloc (by simp) _, by simp⟩
  · have := Holds.new (w.alloc (.cells (evs (List.replicate n evZ)).toArray 41)) 67 #[.slice (some ⟨w.heap.size, 0, none⟩) n n, .int .i64 0, .int .i64 0]
    simpa using this
  · exact (Holds.new w 41 (evs (List.replicate n evZ)).toArray).alloc _
end Go.Proofs.Ytjifnnloncanpaa.RE
