/- Package globe: Global; the document's Raw, Global. -/
import Derived.Test.YtgmeakcfiaopcaaGreatGbA
import Derived.Test.YtgmeakcfiaopcaaGreatGbB
namespace Go.Proofs.YtgmeakcfiaopcaaGreat
open Go.RowKit
set_option linter.unusedVariables false
set_option linter.unusedSimpArgs false

theorem Box.cells5 {w0 w : World} {t : TypeId} {a b c d e : Value} (h : Box w0 t #[a, b, c, d, e] w) : w.cell? ⟨w0.heap.size, 0, none⟩ = some a ∧ w.cell? ⟨w0.heap.size, 1, none⟩ = some b ∧ w.cell? ⟨w0.heap.size, 2, none⟩ = some c ∧ w.cell? ⟨w0.heap.size, 3, none⟩ = some d ∧ w.cell? ⟨w0.heap.size, 4, none⟩ = some e ∧ Box w0 t #[a, b, c, d, e] w :=
  ⟨h.holds.cell 0, h.holds.cell 1, h.holds.cell 2, h.holds.cell 3, h.holds.cell 4, h⟩
/-- A map as Of answers it. -/
structure MapOk (c e l o a b : Int) : Prop where
  l1 : 0 ≤ l
  l2 : l ≤ 1125899906842624
  o1 : -1125899906842624 ≤ o
  o2 : o ≤ 1125899906842624
  sl : SlOk c e a b
theorem map_ok (d : Int) {L : List Ent} (h : Ents8 L) (hL : L ≠ []) : MapOk (2 * dV d) (1000 - dV d) (locV L) (offV L) (ofV d L).1 (ofV d L).2 := by
  have hn : 0 < (L.length : Int) := by
    have := List.length_pos_iff.2 hL
    omega
  obtain ⟨l1, l2⟩ := mean_bd hn (sumE_bd entL 0 1125899906842624 L (fun x hx => ⟨(h.can x hx).l1, (h.can x hx).l2⟩))
  obtain ⟨o1, o2⟩ := mean_bd hn (sumE_bd entO (-1125899906842624) 1125899906842624 L (fun x hx => ⟨(h.can x hx).o1, (h.can x hx).o2⟩))
  exact ⟨l1, l2, o1, o2, of_ok d L⟩
/-- The other clock's time, be it one that can be or not. -/
def rawV (l o a b t : Int) : Int := t + o + gainV a b (t - l)
section
variable {c e l o a b : Int}
theorem MapOk.gain (h : MapOk c e l o a b) {t : Int} (h0 : -1 ≤ t) (h1 : t ≤ 1125899906842625) : gainV a b (t - l) = a * (t - l) / b ∧ -1125899906842625 ≤ gainV a b (t - l) ∧ gainV a b (t - l) ≤ 1125899906842625 := by
  have l1 := h.l1
  have l2 := h.l2
  have e := h.sl.gain (t := t - l) (by omega) (by omega)
  obtain ⟨w1, w2⟩ := h.sl.within (t - l)
  rw [e]
  refine ⟨rfl, ?_, ?_⟩
  · split at w1 <;> omega
  · split at w2 <;> omega
theorem MapOk.fits (h : MapOk c e l o a b) : Fits a ∧ Fits b := by
  obtain ⟨w1, w2⟩ := h.sl.whole
  have := h.sl.b2
  have := h.sl.b1
  unfold Fits
  omega
/-- It never goes back, and no faster than the greatest slope lets. -/
theorem MapOk.on (h : MapOk c e l o a b) {t n : Int} (h0 : -1 ≤ t) (hn : 0 ≤ n) (h1 : t + n ≤ 1125899906842625) : rawV l o a b t ≤ rawV l o a b (t + n) ∧ rawV l o a b (t + n) ≤ rawV l o a b t + n + c * n / e + 1 := by
  obtain ⟨k1, k2⟩ := h.sl.on (t - l) hn
  unfold rawV
  rw [(h.gain (t := t) h0 (by omega)).1, (h.gain (t := t + n) (by omega) h1).1, show t + n - l = t - l + n by omega]
  omega
theorem MapOk.mono (h : MapOk c e l o a b) {s t : Int} (h0 : -1 ≤ s) (hst : s ≤ t) (h1 : t ≤ 1125899906842625) : rawV l o a b s ≤ rawV l o a b t := by
  have := (h.on h0 (show 0 ≤ t - s by omega) (by omega)).1
  rwa [show s + (t - s) = t by omega] at this
end
set_option maxHeartbeats 1000000 in
theorem reckon_any (c e l o a b h t : Int) (w : World) (hm : MapOk c e l o a b) (h0 : -1 ≤ t) (h1 : t ≤ 1125899906842625) :
    Calls Tryz.prog 87 #[mapV l o a b h, .int .i64 t] w fun e w' => e = .returned (.int .i64 (rawV l o a b t)) ∧ Below w.heap.size w w' := by
  have HB := Lib.hid (Box.start w 142 #[.int .i64 l, .int .i64 o, .int .i64 a, .int .i64 b, .int .i64 h])
  obtain ⟨_, g1, g2⟩ := hm.gain h0 h1
  obtain ⟨fa, fb⟩ := hm.fits
  obtain ⟨l1, l2, o1, o2, _⟩ := hm
  have hg := fun W => gain_any a b (t - l) W fa fb (by unfold Fits; omega)
  have e1 := IntWalk.i64_in (t + o) (by omega)
  have e2 := IntWalk.i64_in (t - l) (by omega)
  have e3 := IntWalk.i64_in (t + o + gainV a b (t - l)) (by omega)
  unfold rawV mapV
  obtain ⟨G, hG⟩ : ∃ G, gainV a b (t - l) = G := ⟨_, rfl⟩
  simp only [hG] at hg e3 ⊢
  clear hG g1 g2 fa fb l1 l2 o1 o2
  go_enter Tryz.func87, Tryz.ntmps87
  go_wp2
  refine region_turns (fun (w' : World) => w'.cell? ⟨w.heap.size, 0, none⟩ = some (.int .i64 l) ∧ w'.cell? ⟨w.heap.size, 1, none⟩ = some (.int .i64 o) ∧ w'.cell? ⟨w.heap.size, 2, none⟩ = some (.int .i64 a) ∧ w'.cell? ⟨w.heap.size, 3, none⟩ = some (.int .i64 b) ∧ w'.cell? ⟨w.heap.size, 4, none⟩ = some (.int .i64 h) ∧ Box w 142 #[.int .i64 l, .int .i64 o, .int .i64 a, .int .i64 b, .int .i64 h] w') (fun j => decide (13 ≤ j)) (by kernel_rfl) (HB.out.drew.cells5) (fun hS => ?_)
  refine Turns.take hS 0 _ rfl (by kernel_rfl) (by kernel_rfl) (by kernel_rfl) (by kernel_rfl) (fun _ _ _ h => h) (by rfl) (fun w' hS' => by (try dsimp only at hS'); go_split_ands; go_simp; (try with_reducible rfl)) ?_
  simp only [Act.put, List.getElem_toArray, List.getElem_cons_succ, List.getElem_cons_zero, List.setIfInBounds_toArray, List.set_cons_zero, List.set_cons_succ]
  refine Turns.take hS 1 _ rfl (by kernel_rfl) (by kernel_rfl) (by kernel_rfl) (by kernel_rfl) (fun _ _ _ h => h) (by rfl) (fun w' hS' => by (try dsimp only at hS'); go_split_ands; go_simp; (try with_reducible rfl)) ?_
  simp only [Act.put, List.getElem_toArray, List.getElem_cons_succ, List.getElem_cons_zero, List.setIfInBounds_toArray, List.set_cons_zero, List.set_cons_succ]
  refine Turns.take hS 2 _ rfl (by kernel_rfl) (by kernel_rfl) (by kernel_rfl) (by kernel_rfl) (fun _ _ _ h => h) (by rfl) (fun w' hS' => by (try dsimp only at hS'); go_split_ands; go_simp; (try with_reducible rfl)) ?_
  simp only [Act.put, List.getElem_toArray, List.getElem_cons_succ, List.getElem_cons_zero, List.setIfInBounds_toArray, List.set_cons_zero, List.set_cons_succ]
  refine Turns.take hS 3 _ rfl (by kernel_rfl) (by kernel_rfl) (by kernel_rfl) (by kernel_rfl) (fun _ _ _ h => h) (by rfl) (fun w' hS' => by (try dsimp only at hS'); go_split_ands; go_simp; (try with_reducible rfl)) ?_
  simp only [Act.put, List.getElem_toArray, List.getElem_cons_succ, List.getElem_cons_zero, List.setIfInBounds_toArray, List.set_cons_zero, List.set_cons_succ]
  refine Turns.take hS 4 _ rfl (by kernel_rfl) (by kernel_rfl) (by kernel_rfl) (by kernel_rfl) (fun _ _ _ h => h) (by rfl) (fun w' hS' => by (try dsimp only at hS'); go_split_ands; go_simp; (try with_reducible rfl)) ?_
  simp only [Act.put, List.getElem_toArray, List.getElem_cons_succ, List.getElem_cons_zero, List.setIfInBounds_toArray, List.set_cons_zero, List.set_cons_succ]
  refine Turns.take hS 5 _ rfl (by kernel_rfl) (by kernel_rfl) (by kernel_rfl) (by kernel_rfl) (fun _ _ _ h => h) (by rfl) (fun w' hS' => by (try dsimp only at hS'); go_split_ands; go_simp; (try with_reducible rfl)) ?_
  simp only [Act.put, List.getElem_toArray, List.getElem_cons_succ, List.getElem_cons_zero, List.setIfInBounds_toArray, List.set_cons_zero, List.set_cons_succ]
  refine Turns.take hS 6 _ rfl (by kernel_rfl) (by kernel_rfl) (by kernel_rfl) (by kernel_rfl) (fun _ _ _ h => h) (by rfl) (fun w' hS' => by (try dsimp only at hS'); go_split_ands; go_simp; (try with_reducible rfl)) ?_
  simp only [Act.put, List.getElem_toArray, List.getElem_cons_succ, List.getElem_cons_zero, List.setIfInBounds_toArray, List.set_cons_zero, List.set_cons_succ]
  refine Turns.take hS 7 _ rfl (by kernel_rfl) (by kernel_rfl) (by kernel_rfl) (by kernel_rfl) (fun _ _ _ h => h) (by rfl) (fun w' hS' => by (try dsimp only at hS'); go_split_ands; go_simp; (try with_reducible rfl)) ?_
  simp only [Act.put, List.getElem_toArray, List.getElem_cons_succ, List.getElem_cons_zero, List.setIfInBounds_toArray, List.set_cons_zero, List.set_cons_succ]
  refine Turns.take hS 8 _ rfl (by kernel_rfl) (by kernel_rfl) (by kernel_rfl) (by kernel_rfl) (fun _ _ _ h => h) (by rfl) (fun w' hS' => by (try dsimp only at hS'); go_split_ands; go_simp; (try with_reducible rfl)) ?_
  simp only [Act.put, List.getElem_toArray, List.getElem_cons_succ, List.getElem_cons_zero, List.setIfInBounds_toArray, List.set_cons_zero, List.set_cons_succ]
  refine Turns.take hS 9 _ rfl (by kernel_rfl) (by kernel_rfl) (by kernel_rfl) (by kernel_rfl) (fun _ _ _ h => h) (by rfl) (fun w' hS' => by (try dsimp only at hS'); go_split_ands; go_simp; (try with_reducible rfl)) ?_
  simp only [Act.put, List.getElem_toArray, List.getElem_cons_succ, List.getElem_cons_zero, List.setIfInBounds_toArray, List.set_cons_zero, List.set_cons_succ]
  refine Turns.next 10 rfl (by kernel_rfl) (by rfl) (fun K hK => ?_)
  go_simp
  go_at_call 98
  refine (hg _).mono ?_
  rintro e w2 ⟨rfl, hb⟩
  have HE := Lib.hid (hS.2.2.2.2.2.next hb)
  refine hK.out _ _ (show (fun (w' : World) => w'.cell? ⟨w.heap.size, 0, none⟩ = some (.int .i64 l) ∧ w'.cell? ⟨w.heap.size, 1, none⟩ = some (.int .i64 o) ∧ w'.cell? ⟨w.heap.size, 2, none⟩ = some (.int .i64 a) ∧ w'.cell? ⟨w.heap.size, 3, none⟩ = some (.int .i64 b) ∧ w'.cell? ⟨w.heap.size, 4, none⟩ = some (.int .i64 h) ∧ Box w 142 #[.int .i64 l, .int .i64 o, .int .i64 a, .int .i64 b, .int .i64 h] w') _ from HE.out.cells5) ?_
  clear hK K hS
  have hS := (show (fun (w' : World) => w'.cell? ⟨w.heap.size, 0, none⟩ = some (.int .i64 l) ∧ w'.cell? ⟨w.heap.size, 1, none⟩ = some (.int .i64 o) ∧ w'.cell? ⟨w.heap.size, 2, none⟩ = some (.int .i64 a) ∧ w'.cell? ⟨w.heap.size, 3, none⟩ = some (.int .i64 b) ∧ w'.cell? ⟨w.heap.size, 4, none⟩ = some (.int .i64 h) ∧ Box w 142 #[.int .i64 l, .int .i64 o, .int .i64 a, .int .i64 b, .int .i64 h] w') _ from HE.out.cells5)
  refine Turns.take hS 11 _ rfl (by kernel_rfl) (by kernel_rfl) (by kernel_rfl) (by kernel_rfl) (fun _ _ _ h => h) (by rfl) (fun w' hS' => by (try dsimp only at hS'); go_split_ands; go_simp; (try with_reducible rfl)) ?_
  simp only [Act.put, List.getElem_toArray, List.getElem_cons_succ, List.getElem_cons_zero, List.setIfInBounds_toArray, List.set_cons_zero, List.set_cons_succ]
  refine Turns.take hS 12 _ rfl (by kernel_rfl) (by kernel_rfl) (by kernel_rfl) (by kernel_rfl) (fun _ _ _ h => h) (by rfl) (fun w' hS' => by (try dsimp only at hS'); go_split_ands; go_simp; (try with_reducible rfl)) ?_
  simp only [Act.put, List.getElem_toArray, List.getElem_cons_succ, List.getElem_cons_zero, List.setIfInBounds_toArray, List.set_cons_zero, List.set_cons_succ]
  refine Turns.rest (late_done (by kernel_rfl)) ?_
  refine any_tail 13 (by rfl) (by kernel_rfl) ?_
  simp only [List.drop_succ_cons, List.drop_zero]
  clear hS
  go_wp2
  go_ret
  exact ⟨rfl, HE.out.below⟩
set_option maxHeartbeats 1000000 in
theorem raw_any (c e l o a b h t : Int) (w : World) (hm : MapOk c e l o a b) (h0 : -1 ≤ t) (h1 : t ≤ 1125899906842625) :
    Calls Tryz.prog 81 #[mapV l o a b h, .int .i64 t] w fun e w' => e = .returned (.int .i64 (rawV l o a b t)) ∧ Below w.heap.size w w' := by
  have HB := Lib.hid (Box.start w 134 #[.int .i64 l, .int .i64 o, .int .i64 a, .int .i64 b, .int .i64 h])
  obtain ⟨_, g1, g2⟩ := hm.gain h0 h1
  obtain ⟨fa, fb⟩ := hm.fits
  obtain ⟨l1, l2, o1, o2, _⟩ := hm
  have hg := fun W => rgain_any a b (t - l) W fa fb (by unfold Fits; omega)
  have e1 := IntWalk.i64_in (t + o) (by omega)
  have e2 := IntWalk.i64_in (t - l) (by omega)
  have e3 := IntWalk.i64_in (t + o + gainV a b (t - l)) (by omega)
  unfold rawV mapV
  obtain ⟨G, hG⟩ : ∃ G, gainV a b (t - l) = G := ⟨_, rfl⟩
  simp only [hG] at hg e3 ⊢
  clear hG g1 g2 fa fb l1 l2 o1 o2
  go_enter Tryz.func81, Tryz.ntmps81
  go_wp2
  refine region_turns (fun (w' : World) => w'.cell? ⟨w.heap.size, 0, none⟩ = some (.int .i64 l) ∧ w'.cell? ⟨w.heap.size, 1, none⟩ = some (.int .i64 o) ∧ w'.cell? ⟨w.heap.size, 2, none⟩ = some (.int .i64 a) ∧ w'.cell? ⟨w.heap.size, 3, none⟩ = some (.int .i64 b) ∧ w'.cell? ⟨w.heap.size, 4, none⟩ = some (.int .i64 h) ∧ Box w 134 #[.int .i64 l, .int .i64 o, .int .i64 a, .int .i64 b, .int .i64 h] w') (fun j => decide (15 ≤ j)) (by kernel_rfl) (HB.out.drew.cells5) (fun hS => ?_)
  refine Turns.take hS 0 _ rfl (by kernel_rfl) (by kernel_rfl) (by kernel_rfl) (by kernel_rfl) (fun _ _ _ h => h) (by rfl) (fun w' hS' => by (try dsimp only at hS'); go_split_ands; go_simp; (try with_reducible rfl)) ?_
  simp only [Act.put, List.getElem_toArray, List.getElem_cons_succ, List.getElem_cons_zero, List.setIfInBounds_toArray, List.set_cons_zero, List.set_cons_succ]
  refine Turns.take hS 1 _ rfl (by kernel_rfl) (by kernel_rfl) (by kernel_rfl) (by kernel_rfl) (fun _ _ _ h => h) (by rfl) (fun w' hS' => by (try dsimp only at hS'); go_split_ands; go_simp; (try with_reducible rfl)) ?_
  simp only [Act.put, List.getElem_toArray, List.getElem_cons_succ, List.getElem_cons_zero, List.setIfInBounds_toArray, List.set_cons_zero, List.set_cons_succ]
  refine Turns.take hS 2 _ rfl (by kernel_rfl) (by kernel_rfl) (by kernel_rfl) (by kernel_rfl) (fun _ _ _ h => h) (by rfl) (fun w' hS' => by (try dsimp only at hS'); go_split_ands; go_simp; (try with_reducible rfl)) ?_
  simp only [Act.put, List.getElem_toArray, List.getElem_cons_succ, List.getElem_cons_zero, List.setIfInBounds_toArray, List.set_cons_zero, List.set_cons_succ]
  refine Turns.take hS 3 _ rfl (by kernel_rfl) (by kernel_rfl) (by kernel_rfl) (by kernel_rfl) (fun _ _ _ h => h) (by rfl) (fun w' hS' => by (try dsimp only at hS'); go_split_ands; go_simp; (try with_reducible rfl)) ?_
  simp only [Act.put, List.getElem_toArray, List.getElem_cons_succ, List.getElem_cons_zero, List.setIfInBounds_toArray, List.set_cons_zero, List.set_cons_succ]
  refine Turns.take hS 4 _ rfl (by kernel_rfl) (by kernel_rfl) (by kernel_rfl) (by kernel_rfl) (fun _ _ _ h => h) (by rfl) (fun w' hS' => by (try dsimp only at hS'); go_split_ands; go_simp; (try with_reducible rfl)) ?_
  simp only [Act.put, List.getElem_toArray, List.getElem_cons_succ, List.getElem_cons_zero, List.setIfInBounds_toArray, List.set_cons_zero, List.set_cons_succ]
  refine Turns.take hS 5 _ rfl (by kernel_rfl) (by kernel_rfl) (by kernel_rfl) (by kernel_rfl) (fun _ _ _ h => h) (by rfl) (fun w' hS' => by (try dsimp only at hS'); go_split_ands; go_simp; (try with_reducible rfl)) ?_
  simp only [Act.put, List.getElem_toArray, List.getElem_cons_succ, List.getElem_cons_zero, List.setIfInBounds_toArray, List.set_cons_zero, List.set_cons_succ]
  refine Turns.take hS 6 _ rfl (by kernel_rfl) (by kernel_rfl) (by kernel_rfl) (by kernel_rfl) (fun _ _ _ h => h) (by rfl) (fun w' hS' => by (try dsimp only at hS'); go_split_ands; go_simp; (try with_reducible rfl)) ?_
  simp only [Act.put, List.getElem_toArray, List.getElem_cons_succ, List.getElem_cons_zero, List.setIfInBounds_toArray, List.set_cons_zero, List.set_cons_succ]
  refine Turns.take hS 7 _ rfl (by kernel_rfl) (by kernel_rfl) (by kernel_rfl) (by kernel_rfl) (fun _ _ _ h => h) (by rfl) (fun w' hS' => by (try dsimp only at hS'); go_split_ands; go_simp; (try with_reducible rfl)) ?_
  simp only [Act.put, List.getElem_toArray, List.getElem_cons_succ, List.getElem_cons_zero, List.setIfInBounds_toArray, List.set_cons_zero, List.set_cons_succ]
  refine Turns.take hS 8 _ rfl (by kernel_rfl) (by kernel_rfl) (by kernel_rfl) (by kernel_rfl) (fun _ _ _ h => h) (by rfl) (fun w' hS' => by (try dsimp only at hS'); go_split_ands; go_simp; (try with_reducible rfl)) ?_
  simp only [Act.put, List.getElem_toArray, List.getElem_cons_succ, List.getElem_cons_zero, List.setIfInBounds_toArray, List.set_cons_zero, List.set_cons_succ]
  refine Turns.take hS 9 _ rfl (by kernel_rfl) (by kernel_rfl) (by kernel_rfl) (by kernel_rfl) (fun _ _ _ h => h) (by rfl) (fun w' hS' => by (try dsimp only at hS'); go_split_ands; go_simp; (try with_reducible rfl)) ?_
  simp only [Act.put, List.getElem_toArray, List.getElem_cons_succ, List.getElem_cons_zero, List.setIfInBounds_toArray, List.set_cons_zero, List.set_cons_succ]
  refine Turns.take hS 10 _ rfl (by kernel_rfl) (by kernel_rfl) (by kernel_rfl) (by kernel_rfl) (fun _ _ _ h => h) (by rfl) (fun w' hS' => by (try dsimp only at hS'); go_split_ands; go_simp; (try with_reducible rfl)) ?_
  simp only [Act.put, List.getElem_toArray, List.getElem_cons_succ, List.getElem_cons_zero, List.setIfInBounds_toArray, List.set_cons_zero, List.set_cons_succ]
  refine Turns.take hS 11 _ rfl (by kernel_rfl) (by kernel_rfl) (by kernel_rfl) (by kernel_rfl) (fun _ _ _ h => h) (by rfl) (fun w' hS' => by (try dsimp only at hS'); go_split_ands; go_simp; (try with_reducible rfl)) ?_
  simp only [Act.put, List.getElem_toArray, List.getElem_cons_succ, List.getElem_cons_zero, List.setIfInBounds_toArray, List.set_cons_zero, List.set_cons_succ]
  refine Turns.next 12 rfl (by kernel_rfl) (by rfl) (fun K hK => ?_)
  go_simp
  go_at_call 91
  refine (hg _).mono ?_
  rintro e w2 ⟨rfl, hb⟩
  have HE := Lib.hid (hS.2.2.2.2.2.next hb)
  refine hK.out _ _ (show (fun (w' : World) => w'.cell? ⟨w.heap.size, 0, none⟩ = some (.int .i64 l) ∧ w'.cell? ⟨w.heap.size, 1, none⟩ = some (.int .i64 o) ∧ w'.cell? ⟨w.heap.size, 2, none⟩ = some (.int .i64 a) ∧ w'.cell? ⟨w.heap.size, 3, none⟩ = some (.int .i64 b) ∧ w'.cell? ⟨w.heap.size, 4, none⟩ = some (.int .i64 h) ∧ Box w 134 #[.int .i64 l, .int .i64 o, .int .i64 a, .int .i64 b, .int .i64 h] w') _ from HE.out.cells5) ?_
  clear hK K hS
  have hS := (show (fun (w' : World) => w'.cell? ⟨w.heap.size, 0, none⟩ = some (.int .i64 l) ∧ w'.cell? ⟨w.heap.size, 1, none⟩ = some (.int .i64 o) ∧ w'.cell? ⟨w.heap.size, 2, none⟩ = some (.int .i64 a) ∧ w'.cell? ⟨w.heap.size, 3, none⟩ = some (.int .i64 b) ∧ w'.cell? ⟨w.heap.size, 4, none⟩ = some (.int .i64 h) ∧ Box w 134 #[.int .i64 l, .int .i64 o, .int .i64 a, .int .i64 b, .int .i64 h] w') _ from HE.out.cells5)
  refine Turns.take hS 13 _ rfl (by kernel_rfl) (by kernel_rfl) (by kernel_rfl) (by kernel_rfl) (fun _ _ _ h => h) (by rfl) (fun w' hS' => by (try dsimp only at hS'); go_split_ands; go_simp; (try with_reducible rfl)) ?_
  simp only [Act.put, List.getElem_toArray, List.getElem_cons_succ, List.getElem_cons_zero, List.setIfInBounds_toArray, List.set_cons_zero, List.set_cons_succ]
  refine Turns.take hS 14 _ rfl (by kernel_rfl) (by kernel_rfl) (by kernel_rfl) (by kernel_rfl) (fun _ _ _ h => h) (by rfl) (fun w' hS' => by (try dsimp only at hS'); go_split_ands; go_simp; (try with_reducible rfl)) ?_
  simp only [Act.put, List.getElem_toArray, List.getElem_cons_succ, List.getElem_cons_zero, List.setIfInBounds_toArray, List.set_cons_zero, List.set_cons_succ]
  refine Turns.rest (late_done (by kernel_rfl)) ?_
  refine any_tail 15 (by rfl) (by kernel_rfl) ?_
  simp only [List.drop_succ_cons, List.drop_zero]
  clear hS
  go_wp2
  go_ret
  exact ⟨rfl, HE.out.below⟩
/-- Can a time be? -/
def CanT (t : Int) : Prop := 0 ≤ t ∧ t ≤ 1125899906842624
theorem time_yes (t : Int) (w : World) (h : CanT t) : Calls Tryz.prog 86 #[.int .i64 t] w fun e w' => e = .returned (.bool true) ∧ w' = w := by
  obtain ⟨h1, h2⟩ := h
  go_enter Tryz.func86, Tryz.ntmps86
  go_wp2
  go_ret
  exact ⟨rfl, rfl⟩
theorem time_no (t : Int) (w : World) (h : ¬ CanT t) : Calls Tryz.prog 86 #[.int .i64 t] w fun e w' => e = .returned (.bool false) ∧ w' = w := by
  by_cases h1 : 0 ≤ t
  · have h2 : decide (t ≤ 1125899906842624) = false := decide_eq_false (fun h2 => h ⟨h1, h2⟩)
    clear h
    go_enter Tryz.func86, Tryz.ntmps86
    go_wp2
    go_ret
    exact ⟨rfl, rfl⟩
  · have h2 : decide (0 ≤ t) = false := decide_eq_false h1
    clear h
    go_enter Tryz.func86, Tryz.ntmps86
    go_wp2
    go_ret
    exact ⟨rfl, rfl⟩
/-- What Global answers. -/
structure Glob (l o a b t g : Int) (ok : Bool) : Prop where
  is : (CanT t ∧ CanT (rawV l o a b t) ∧ g = rawV l o a b t ∧ ok = true) ∨ (¬ (CanT t ∧ CanT (rawV l o a b t)) ∧ g = 0 ∧ ok = false)
theorem glob_ex (l o a b t : Int) : ∃ g ok, Glob l o a b t g ok := by
  by_cases h : CanT t ∧ CanT (rawV l o a b t)
  · exact ⟨_, _, ⟨.inl ⟨h.1, h.2, rfl, rfl⟩⟩⟩
  · exact ⟨_, _, ⟨.inr ⟨h, rfl, rfl⟩⟩⟩
set_option maxHeartbeats 1000000 in
theorem global_any (c e l o a b h t g : Int) (ok : Bool) (w : World) (hm : MapOk c e l o a b) (hg : Glob l o a b t g ok) :
    Calls Tryz.prog 71 #[mapV l o a b h, .int .i64 t] w fun e w' => e = .returned (.tuple #[.int .i64 g, .bool ok]) ∧ Below w.heap.size w w' := by
  have HB := Lib.hid (Box.start w 142 #[.int .i64 l, .int .i64 o, .int .i64 a, .int .i64 b, .int .i64 h])
  have HM := Lib.hid hm
  obtain ⟨c0, c1, c2, c3, c4, _⟩ := HB.out.cells5
  obtain ⟨hg⟩ := hg
  by_cases h1 : CanT t
  · have ht := time_yes t (w.alloc (.cells #[.int .i64 l, .int .i64 o, .int .i64 a, .int .i64 b, .int .i64 h] 142)) h1
    have hre := fun W => reckon_any c e l o a b h t W HM.out (by have := h1.1; omega) (by have := h1.2; omega)
    unfold mapV at hre ⊢
    have HR := Lib.hid hre
    obtain ⟨R, hR⟩ : ∃ R, rawV l o a b t = R := ⟨_, rfl⟩
    rw [hR] at HR hg
    clear hre hm hR
    rcases hg with ⟨_, h2, rfl, rfl⟩ | ⟨h2, rfl, rfl⟩
    · have h2' := Lib.hid h2
      clear h2
      go_enter Tryz.func71, Tryz.ntmps71
      go_wp2_with (first
        | (go_at_call 86; (with_reducible refine ht.mono ?_); rintro e wx ⟨rfl, hwx⟩; subst wx)
        | (go_at_call 87; refine (HR.out _).mono ?_; rintro e w2 ⟨rfl, hb2⟩; have HB2 := Lib.hid (HB.out.next hb2); clear hb2)
        | (go_at_call 86; refine (time_yes g w2 h2'.out).mono ?_; rintro e wx ⟨rfl, hwx⟩; subst wx))
      go_ret2
      exact ⟨rfl, HB2.out.below⟩
    · have h2' := Lib.hid (show ¬ CanT R from fun k => h2 ⟨h1, k⟩)
      clear h2
      go_enter Tryz.func71, Tryz.ntmps71
      go_wp2_with (first
        | (go_at_call 86; (with_reducible refine ht.mono ?_); rintro e wx ⟨rfl, hwx⟩; subst wx)
        | (go_at_call 87; refine (HR.out _).mono ?_; rintro e w2 ⟨rfl, hb2⟩; have HB2 := Lib.hid (HB.out.next hb2); clear hb2)
        | (go_at_call 86; refine (time_no R w2 h2'.out).mono ?_; rintro e wx ⟨rfl, hwx⟩; subst wx))
      go_ret2
      exact ⟨rfl, HB2.out.below⟩
  · have ht := time_no t (w.alloc (.cells #[.int .i64 l, .int .i64 o, .int .i64 a, .int .i64 b, .int .i64 h] 142)) h1
    obtain ⟨rfl, rfl⟩ : g = 0 ∧ ok = false := by
      rcases hg with ⟨k, _⟩ | ⟨_, k⟩
      · exact absurd k h1
      · exact k
    clear hg hm
    unfold mapV
    go_enter Tryz.func71, Tryz.ntmps71
    go_wp2_with (go_at_call 86; (with_reducible refine ht.mono ?_); rintro e wx ⟨rfl, hwx⟩; subst wx)
    go_ret2
    exact ⟨rfl, HB.out.below⟩
end Go.Proofs.YtgmeakcfiaopcaaGreat
