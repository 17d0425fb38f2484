/- Package ring: what All goes over: a list of a row's things. -/
import Derived.Test.YtcbfpejlbbgdjaaRgPI
import Derived.Lib.SlFresh
namespace Go.Proofs.Ytcbfpejlbbgdjaa.RI
open Go.RowKit
set_option linter.unusedVariables false
set_option linter.unusedSimpArgs false

theorem make_room (n : Nat) (hn : n ≤ 64) (w : World) : (Instr.makeSlice 34 (.int .i64 0) (.int .i64 (n : Int))).run Try.prog w = .ok (.slice (some ⟨w.heap.size, 0, none⟩) 0 n) (w.alloc (.cells (cellsOf (List.replicate n 0)) 3)) := by
  obtain ⟨i, hi, hzz⟩ := Option.map_eq_some_iff.1 t_info
  simp only [Prod.mk.injEq] at hzz
  obtain ⟨hz, hs, hb⟩ := hzz
  have hr := run_make (P := Try.prog) w 34 3 i _ Try.underlying34 hi hz .i64 .i64 0 n (Int.le_refl _) (by omega) (by rw [hb]; omega) (by omega)
  simp only [Int.toNat_natCast, hs, Nat.mul_one, Int.toNat_zero] at hr
  rw [hr, show (Value.int .i64 0).cells = #[Value.int .i64 0] from rfl, made_is]
  simp [cellsOf]
theorem room_own (w : World) (n : Nat) (hn : n ≤ 64) : (w.alloc (.cells (cellsOf (List.replicate n 0)) 3)).ownsRow w.heap.size 3 1 (.slice (some ⟨w.heap.size, 0, none⟩) 0 n) 0 [] :=
  World.ownsRow_made w _ n (Nat.le_refl _) (by unfold maxLen; omega) (by simp [cellsOf])
theorem list_nil (w : World) : Calls Try.prog 25 #[.pointer none] w (GaveRow 3 .i64 w 0 []) := by
  have hmk : ∀ w, (Instr.makeSlice 34 (.int .i64 0) (.int .i64 0)).run Try.prog w = .ok (.slice (some ⟨w.heap.size, 0, none⟩) 0 0) (w.alloc (.cells (cellsOf (List.replicate 0 0)) 3)) := fun w => make_room 0 (by omega) w
  have hl := fun w => len_nil w
  have hend : ∀ w : World, GaveRow 3 .i64 w 0 [] (.returned (.slice (some ⟨w.heap.size, 0, none⟩) 0 0)) (w.alloc (.cells (cellsOf (List.replicate 0 0)) 3)) := fun w => gave (room_own w 0 (by omega)) (below_alloc _ _)
  have HEnd := Lib.hid hend
  clear hend
  go_enter Try.func25, Try.ntmps25
  go_wp2_with (go_at_call 12; refine (hl _).mono ?_; rintro e w' ⟨rfl, rfl⟩)
  go_loopw [3, 10] (fun x y wr => x = .slice (some ⟨w'.heap.size, 0, none⟩) 0 0 ∧ y = .int .i64 0 ∧ wr = w'.alloc (.cells (cellsOf (List.replicate 0 0)) 3)) (fun _ _ _ => 0)
  case atStart => exact ⟨rfl, rfl, rfl⟩
  case round =>
    obtain ⟨rfl, rfl, rfl⟩ := hrel
    go_wp2
    go_ret
    exact HEnd.out _

theorem snoc_row {w' : World} {B n k : Nat} {v : Value} {L : List Int} {z : Int} (h : w'.ownsRow B 3 1 v n ((L.take k).map (Value.int .i64) ++ [.int .i64 z])) (hz : L[k]? = some z) :
    w'.ownsRow B 3 1 v n ((L.take (k + 1)).map (Value.int .i64)) := by
  have : (L.take (k + 1)) = L.take k ++ [z] := by
    obtain ⟨hk, rfl⟩ := List.getElem?_eq_some_iff.1 hz
    rw [List.take_succ_eq_append_getElem hk]
  rw [this, List.map_append]
  exact h
set_option maxHeartbeats 2000000 in
theorem list_any (w : World) (B g b room : Nat) (L : List Int) (h : Rg w B g b room L) :
    Calls Try.prog 25 #[.pointer (some ⟨g, 0, none⟩)] w (GaveRow 3 .i64 w L.length L) := by
  obtain ⟨n, hn⟩ : ∃ n, L.length = n := ⟨_, rfl⟩
  have hl := fun (W : World) (hW : Below w.heap.size w W) => len_any W B g b room L (h.below hW)
  simp only [hn] at hl
  have hmk := fun w => make_room n (by have := h.len; have := h.fits; omega) w
  have hown := room_own w n (by have := h.len; have := h.fits; omega)
  obtain ⟨first, zs, h⟩ := h
  have HH := Lib.hid h
  have HN := Lib.hid hn
  have hle := h.le
  have hlr := h.len
  rw [hn] at hlr
  have hb0 := below_alloc w (.cells (cellsOf (List.replicate n 0)) 3)
  have HO := Lib.hid hown
  have HB := Lib.hid hb0
  have HL := Lib.hid hl
  have hl0 := hl w (Below.refl _ _)
  have hl1 := hl _ hb0
  rw [hn]
  clear h hn hl hown hb0
  obtain ⟨i0, hi, H0⟩ : ∃ i, Try.prog.info? 3 = some i ∧ i.zero = some (.int .i64 0) ∧ i.size = 1 ∧ i.bytes = 8 := by
    obtain ⟨i, hi, hzz⟩ := Option.map_eq_some_iff.1 t_info
    simp only [Prod.mk.injEq] at hzz
    exact ⟨i, hi, hzz⟩
  have HI := Lib.hid hi
  have HI0 := Lib.hid H0
  clear hi H0
  go_enter Try.func25, Try.ntmps25
  go_wp2_with (first
    | (go_at_call 12; refine hl0.mono ?_; rintro e w' ⟨rfl, rfl⟩)
    | (go_at_call 12; refine hl1.mono ?_; rintro e w' ⟨rfl, rfl⟩))
  go_loopw [3, 10] (fun x y wr => ∃ (k : Nat) (A : Option Addr) (c : Nat), k ≤ n ∧ x = .slice A k c ∧ y = .int .i64 (k : Int) ∧ wr.ownsRow w'.heap.size 3 1 (.slice A k c) k ((L.take k).map (.int .i64)) ∧ Below w'.heap.size w' wr) (fun _ y _ => n - (intOf y).toNat)
  case atStart => exact ⟨0, _, _, Nat.zero_le _, rfl, rfl, by simpa using HO.out, HB.out⟩
  case round =>
    obtain ⟨k, A, c, hk, rfl, rfl, hown, hb⟩ := hrel
    by_cases hlt : k < n
    · have hR := HH.out.below hb
      obtain ⟨z, hz⟩ : ∃ z, L[k]? = some z := ⟨_, List.getElem?_eq_getElem (by rw [HN.out]; exact hlt)⟩
      have hm : (first + k) % room < room := mod_lt' _ hR.pos
      have hzs : zs[(first + k) % room]? = some z := (hR.at' k (by rw [HN.out]; exact hlt)).trans hz
      have hcl := fun W (hW : Below wr.heap.size wr W) => cell_any W g b room first _ (hR.below hW).ptr hR.pos hR.le hR.fst k (by omega)
      have HCl := Lib.hid hcl
      obtain ⟨I, hI⟩ : ∃ I, (first + k) % room = I := ⟨_, rfl⟩
      rw [hI] at hm hzs HCl
      have HR := Lib.hid hR
      have HO2 := Lib.hid hown
      have HB2 := Lib.hid hb
      have HZ := Lib.hid hz
      have HZS := Lib.hid hzs
      have hc0 := (hR.ptr.drewN 1).cell 0
      have hci := (hR.row.drewN 1).cell I
      rw [cells_at hzs] at hci
      clear hR hcl hI hown hb hz hzs HO HB hl0 hl1
      go_upto_region 5 with (fail)
      have hb0 : Below wr.heap.size wr wr.drew := below_drewN (Below.refl _ _) 1
      refine region_turns (fun (w' : World) => w'.cell? ⟨g, 0, none⟩ = some (.slice (some ⟨b, 0, none⟩) room room) ∧ w'.cell? ⟨b, I, none⟩ = some (.int .i64 z)) (fun j => decide (12 ≤ j)) (by kernel_rfl) (⟨hc0, hci⟩) (fun hS => ?_)
      refine Turns.take hS 0 _ rfl (by kernel_rfl) (by kernel_rfl) (by kernel_rfl) (by kernel_rfl) (fun _ _ _ h => h) (by rfl) (fun w' hS' => by (try dsimp only at hS'); go_split_ands; go_simp; (try with_reducible rfl)) ?_
      simp only [Act.put, List.getElem_toArray, List.getElem_cons_succ, List.getElem_cons_zero, List.setIfInBounds_toArray, List.set_cons_zero, List.set_cons_succ]
      refine Turns.take hS 1 _ rfl (by kernel_rfl) (by kernel_rfl) (by kernel_rfl) (by kernel_rfl) (fun _ _ _ h => h) (by rfl) (fun w' hS' => by (try dsimp only at hS'); go_split_ands; go_simp; (try with_reducible rfl)) ?_
      simp only [Act.put, List.getElem_toArray, List.getElem_cons_succ, List.getElem_cons_zero, List.setIfInBounds_toArray, List.set_cons_zero, List.set_cons_succ]
      refine Turns.take hS 2 _ rfl (by kernel_rfl) (by kernel_rfl) (by kernel_rfl) (by kernel_rfl) (fun _ _ _ h => h) (by rfl) (fun w' hS' => by (try dsimp only at hS'); go_split_ands; go_simp; (try with_reducible rfl)) ?_
      simp only [Act.put, List.getElem_toArray, List.getElem_cons_succ, List.getElem_cons_zero, List.setIfInBounds_toArray, List.set_cons_zero, List.set_cons_succ]
      refine Turns.take hS 3 _ rfl (by kernel_rfl) (by kernel_rfl) (by kernel_rfl) (by kernel_rfl) (fun _ _ _ h => h) (by rfl) (fun w' hS' => by (try dsimp only at hS'); go_split_ands; go_simp; (try with_reducible rfl)) ?_
      simp only [Act.put, List.getElem_toArray, List.getElem_cons_succ, List.getElem_cons_zero, List.setIfInBounds_toArray, List.set_cons_zero, List.set_cons_succ]
      refine Turns.take hS 4 _ rfl (by kernel_rfl) (by kernel_rfl) (by kernel_rfl) (by kernel_rfl) (fun _ _ _ h => h) (by rfl) (fun w' hS' => by (try dsimp only at hS'); go_split_ands; go_simp; (try with_reducible rfl)) ?_
      simp only [Act.put, List.getElem_toArray, List.getElem_cons_succ, List.getElem_cons_zero, List.setIfInBounds_toArray, List.set_cons_zero, List.set_cons_succ]
      refine Turns.take hS 5 _ rfl (by kernel_rfl) (by kernel_rfl) (by kernel_rfl) (by kernel_rfl) (fun _ _ _ h => h) (by rfl) (fun w' hS' => by (try dsimp only at hS'); go_split_ands; go_simp; (try with_reducible rfl)) ?_
      simp only [Act.put, List.getElem_toArray, List.getElem_cons_succ, List.getElem_cons_zero, List.setIfInBounds_toArray, List.set_cons_zero, List.set_cons_succ]
      refine Turns.take hS 6 _ rfl (by kernel_rfl) (by kernel_rfl) (by kernel_rfl) (by kernel_rfl) (fun _ _ _ h => h) (by rfl) (fun w' hS' => by (try dsimp only at hS'); go_split_ands; go_simp; (try with_reducible rfl)) ?_
      simp only [Act.put, List.getElem_toArray, List.getElem_cons_succ, List.getElem_cons_zero, List.setIfInBounds_toArray, List.set_cons_zero, List.set_cons_succ]
      refine Turns.next 7 rfl (by kernel_rfl) (by rfl) (fun K hK => ?_)
      go_simp
      refine (HCl.out _ hb0).mono ?_
      rintro e w1 ⟨rfl, m1, rfl⟩
      have hba : Below wr.heap.size wr ((wr.drewN (1 + m1)).alloc (.cells #[.int .i64 z] 3)) := (below_drewN (Below.refl _ _) (1 + m1)).alloc (by exact Nat.le_refl _) _
      have k0 := (HR.out.below hba).ptr.cell 0
      have ki := (HR.out.below hba).row.cell I
      rw [cells_at HZS.out] at ki
      have hown1 := own_keep HO2.out hba
      obtain ⟨A', c', w2, hrun, hown3, hg3, hp3⟩ := run_append_rowK (P := Try.prog) _ _ 34 34 3 i0 (.int .i64 0) 1 8 Try.underlying34 HI.out HI0.out.1 HI0.out.2.1 HI0.out.2.2 rfl (by omega) _ k _ hown1 ⟨wr.heap.size, 0, none⟩ 1 1 [.int .i64 z] rfl (by
        intro j u hj
        match j, hj with
        | 0, hj =>
          simp only [List.getElem?_cons_zero, Option.some.injEq] at hj
          subst hj
          exact (Holds.new _ 3 #[.int .i64 z]).cell 0) (by simp [Value.oneCell']) (by unfold maxLen; omega) (by omega) (Nat.le_trans HB2.out.size hba.size)
      have hbw := Below.grown (HB2.out.trans (hba.mono HB2.out.size)) hg3 (Nat.le_trans HB2.out.size hba.size) (fun q hq => (hown1.lt q hq).1)
      have hbr := HR.out.chg ((Chg.of_below (fun q => w'.heap.size ≤ q) hba).trans (Chg.of_grown (S := fun q => w'.heap.size ≤ q) hg3 (fun q hq => (hown1.lt q hq).1)) (fun _ _ h => h)) (Nat.not_le.2 HH.out.ptr.lt) (Nat.not_le.2 HH.out.row.lt)
      have l0 := hbr.ptr.cell 0
      have li := hbr.row.cell I
      rw [cells_at HZS.out] at li
      have HBW := Lib.hid hbw
      have HO3 := Lib.hid (snoc_row hown3 HZ.out)
      refine hK.out _ _ (show (fun (w' : World) => w'.cell? ⟨g, 0, none⟩ = some (.slice (some ⟨b, 0, none⟩) room room) ∧ w'.cell? ⟨b, I, none⟩ = some (.int .i64 z)) _ from ⟨hc0, hci⟩) ?_
      clear hK K hS
      have hS := (show (fun (w' : World) => w'.cell? ⟨g, 0, none⟩ = some (.slice (some ⟨b, 0, none⟩) room room) ∧ w'.cell? ⟨b, I, none⟩ = some (.int .i64 z)) _ from ⟨hc0, hci⟩)
      refine Turns.take hS 8 _ rfl (by kernel_rfl) (by kernel_rfl) (by kernel_rfl) (by kernel_rfl) (fun _ _ _ h => h) (by rfl) (fun w' hS' => by (try dsimp only at hS'); go_split_ands; go_simp; (try with_reducible rfl)) ?_
      simp only [Act.put, List.getElem_toArray, List.getElem_cons_succ, List.getElem_cons_zero, List.setIfInBounds_toArray, List.set_cons_zero, List.set_cons_succ]
      refine Turns.take hS 9 _ rfl (by kernel_rfl) (by kernel_rfl) (by kernel_rfl) (by kernel_rfl) (fun _ _ _ h => h) (by rfl) (fun w' hS' => by (try dsimp only at hS'); go_split_ands; go_simp; (try with_reducible rfl)) ?_
      simp only [Act.put, List.getElem_toArray, List.getElem_cons_succ, List.getElem_cons_zero, List.setIfInBounds_toArray, List.set_cons_zero, List.set_cons_succ]
      refine Turns.next 10 rfl (by kernel_rfl) (by rfl) (fun K hK => ?_)
      go_simp
      refine hK.out _ _ (show (fun (w' : World) => w'.cell? ⟨g, 0, none⟩ = some (.slice (some ⟨b, 0, none⟩) room room) ∧ w'.cell? ⟨b, I, none⟩ = some (.int .i64 z)) _ from ⟨k0, ki⟩) ?_
      clear hK K hS
      have hS := (show (fun (w' : World) => w'.cell? ⟨g, 0, none⟩ = some (.slice (some ⟨b, 0, none⟩) room room) ∧ w'.cell? ⟨b, I, none⟩ = some (.int .i64 z)) _ from ⟨k0, ki⟩)
      refine Turns.next 11 rfl (by kernel_rfl) (by rfl) (fun K hK => ?_)
      refine Lib.wp_append_run_sl _ (.tmp 13) (.tmp 23) 34 rfl (.slice A k c) (.slice (some ⟨wr.heap.size, 0, none⟩) 1 1) rfl rfl hrun ?_
      refine hK.out _ _ (show (fun (w' : World) => w'.cell? ⟨g, 0, none⟩ = some (.slice (some ⟨b, 0, none⟩) room room) ∧ w'.cell? ⟨b, I, none⟩ = some (.int .i64 z)) _ from ⟨l0, li⟩) ?_
      clear hK K hS
      have hS := (show (fun (w' : World) => w'.cell? ⟨g, 0, none⟩ = some (.slice (some ⟨b, 0, none⟩) room room) ∧ w'.cell? ⟨b, I, none⟩ = some (.int .i64 z)) _ from ⟨l0, li⟩)
      refine Turns.rest (late_done (by kernel_rfl)) ?_
      refine any_tail 12 (by rfl) (by kernel_rfl) ?_
      simp only [List.drop_succ_cons, List.drop_zero]
      clear hS
      go_wp2
      go_roundw
      case rel => exact ⟨k + 1, A', c', by omega, rfl, by go_num, HO3.out, HBW.out⟩
      case measure => simp [intOf]; omega
    · have hkn : k = n := by omega
      have hall : L.take k = L := List.take_of_length_le (by rw [HN.out]; omega)
      subst hkn
      rw [hall] at hown
      have HF := Lib.hid (gave hown hb)
      clear hown hb hall HO HB hl0 hl1
      go_wp2
      go_ret
      exact HF.out
end Go.Proofs.Ytcbfpejlbbgdjaa.RI
