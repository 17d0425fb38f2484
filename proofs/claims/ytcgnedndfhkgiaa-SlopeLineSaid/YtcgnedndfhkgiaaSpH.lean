/- The laws' first call. -/
import Derived.Test.YtcgnedndfhkgiaaSpG
namespace Go.Proofs.Ytcgnedndfhkgiaa
open Go.RowKit
set_option linter.unusedVariables false
set_option linter.unusedSimpArgs false

/-- A row that was just laid. -/
theorem trow_laid {w : World} {g n c : Nat} {t : TypeId} {L : List Ent} (h : Holds w g t (trs L).toArray) (hn : L.length = n) (hc : n ≤ c) (hm : c ≤ maxLen) : TRow w 0 (some ⟨g, 0, none⟩) n c L :=
  ⟨hn, hc, hm, (fun h => by cases h), fun _ => ⟨g, 0, rfl, Nat.zero_le _, h.lt, fun j v hv => by rw [Nat.zero_add, h.cell, List.getElem?_toArray]; exact hv⟩⟩
theorem fits_two : FitsL [(0, 0, 1), (1000, 5, 1)] := ⟨by decide, by decide, fun e he => by
  simp only [List.mem_cons, List.not_mem_nil, or_false] at he
  rcases he with rfl | rfl
  · exact ⟨⟨by decide, by decide, by decide, by decide, by decide, by decide⟩, by unfold Near ptO headE; decide⟩
  · exact ⟨⟨by decide, by decide, by decide, by decide, by decide, by decide⟩, by unfold Near ptO headE; decide⟩⟩
theorem of_ten : ofV 10 [(0, 0, 1), (1000, 5, 1)] = (5000, 1000000) := by
  rw [of_is fits_two (by decide)]
  decide
theorem of_one : ofV 1 [(0, 0, 1), (1000, 5, 1)] = (2, 999) := by
  rw [of_is fits_two (by decide)]
  decide
set_option maxHeartbeats 1000000 in
theorem alive_yes (w : World) : Calls Try.prog 9 #[] w fun e w' => e = .returned (.bool true) ∧ Below w.heap.size w w' := by
  obtain ⟨W1, hW1⟩ : ∃ W, W = w.alloc (.cells #[.int .i64 0, .int .i64 0, .int .i64 1] 37) := ⟨_, rfl⟩
  obtain ⟨W2, hW2⟩ : ∃ W, W = W1.alloc (.cells #[.int .i64 1000, .int .i64 5, .int .i64 1] 37) := ⟨_, rfl⟩
  have z1 : W1.heap.size = w.heap.size + 1 := by rw [hW1, size_alloc]
  have z2 : W2.heap.size = w.heap.size + 1 + 1 := by rw [hW2, size_alloc, z1]
  have HB1 : Below w.heap.size w W1 := by rw [hW1]; exact below_alloc _ _
  have HB2 : Below w.heap.size w W2 := by rw [hW2]; exact HB1.alloc HB1.size _
  have HA : Holds W1 w.heap.size 37 #[.int .i64 0, .int .i64 0, .int .i64 1] := by rw [hW1]; exact Holds.new _ _ _
  have HA2 : Holds W2 w.heap.size 37 #[.int .i64 0, .int .i64 0, .int .i64 1] := by rw [hW2]; exact HA.alloc _
  have HC2 : Holds W2 (w.heap.size + 1) 37 #[.int .i64 1000, .int .i64 5, .int .i64 1] := by rw [← z1, hW2]; exact Holds.new _ _ _
  have HB3 := HB2.alloc HB2.size (.cells (trs [(0, 0, 1), (1000, 5, 1)]).toArray 37)
  have key : ∀ (d : Int) (W : World), Calls Try.prog 10 #[.int .i64 d, .slice (some ⟨W.heap.size, 0, none⟩) 2 2] (W.alloc (.cells (trs [(0, 0, 1), (1000, 5, 1)]).toArray 37)) fun e w' => e = .returned (slV (ofV d [(0, 0, 1), (1000, 5, 1)])) ∧ Below W.heap.size W w' := fun d W => by
    have h := Holds.new W 37 (trs [(0, 0, 1), (1000, 5, 1)]).toArray
    refine (slope_of d _ 0 _ 2 2 _ (trow_laid h rfl (Nat.le_refl _) (by decide))).mono ?_
    rintro e w' ⟨he, hb⟩
    exact ⟨he, (below_alloc _ _).trans (hb.mono (below_alloc _ _).size)⟩
  have k1 := key 10 W2
  rw [of_ten, z2] at k1
  rw [hW2, hW1] at k1
  have HA2' := Lib.hid HA2
  have HC2' := Lib.hid HC2
  have HBB := Lib.hid HB2
  rw [hW2, hW1] at HA2' HC2' HBB
  have KK := Lib.hid (key 1)
  rw [of_one] at KK
  clear HA HA2 HC2 HB1 HB2 HB3 key z1 z2 hW1 hW2
  go_enter Try.func9, Try.ntmps9
  go_wp2_with (first
    | (go_at_call 10; refine k1.mono ?_; rintro e w2 ⟨rfl, hb2⟩; unfold slV; clear k1; have hx := HA2'.out.below hb2 (by omega); have hy := HC2'.out.below hb2 (by omega); have HB5 := Lib.hid (HBB.out.trans (hb2.mono (by omega))); have c0 := hx.cell 0; have c1 := hx.cell 1; have c2 := hx.cell 2; have d0 := hy.cell 0; have d1 := hy.cell 1; have d2 := hy.cell 2; clear hx hy hb2)
    | (go_at_call 10; refine (KK.out _).mono ?_; rintro e w3 ⟨rfl, hb3⟩; unfold slV; have HB6 := Lib.hid (HB5.out.trans (hb3.mono HB5.out.size)); clear hb3))
  go_ret
  exact ⟨rfl, HB6.out⟩
end Go.Proofs.Ytcgnedndfhkgiaa
