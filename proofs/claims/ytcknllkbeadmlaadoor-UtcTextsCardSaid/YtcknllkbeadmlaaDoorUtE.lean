/- Package utc: the document's Parse. -/
import Derived.Test.YtcknllkbeadmlaaDoorUtC
namespace Go.Proofs.YtcknllkbeadmlaaDoor
open Go.RowKit
set_option linter.unusedSimpArgs false
set_option linter.unusedVariables false

theorem rutc_size : (Tryd.prog.info? 28).map (·.size) = some 6 := by kernel_rfl
set_option maxRecDepth 20000 in
theorem ruparse_bad (s : ByteArray) (w : World) (h : ¬ (s.size = 20 ∧ byt s 10 = 84 ∧ byt s 13 = 58 ∧ byt s 16 = 58 ∧ byt s 19 = 90)) :
    Calls Tryd.prog 24 #[.string s] w fun e w' => e = .returned (.tuple #[.agg #[.int .i64 0, .int .i64 0, .int .i64 0, .int .i64 0, .int .i64 0, .int .i64 0], .bool false]) ∧ Below w.heap.size w w' := by
  have HR := Lib.hid (Box.start w 28 #[.int .i64 0, .int .i64 0, .int .i64 0, .int .i64 0, .int .i64 0, .int .i64 0])
  obtain ⟨r0, r1, r2, r3, r4, r5, g0, g1, g2, g3, g4, g5⟩ := HR.out.six
  by_cases h0 : s.size = 20
  · have hne : (s.size : Int) = 20 := by omega
    have hneb : ((s.size : Int) != 20) = false := by rw [hne]; rfl
    have i10 : ∀ W, (Instr.index 9 (.string s) (.int .i64 10)).run Tryd.prog W = .ok (.int .u8 (byt s 10)) W := fun W => run_byte s 10 (by omega) W
    have i13 : ∀ W, (Instr.index 9 (.string s) (.int .i64 13)).run Tryd.prog W = .ok (.int .u8 (byt s 13)) W := fun W => run_byte s 13 (by omega) W
    have i16 : ∀ W, (Instr.index 9 (.string s) (.int .i64 16)).run Tryd.prog W = .ok (.int .u8 (byt s 16)) W := fun W => run_byte s 16 (by omega) W
    have i19 : ∀ W, (Instr.index 9 (.string s) (.int .i64 19)).run Tryd.prog W = .ok (.int .u8 (byt s 19)) W := fun W => run_byte s 19 (by omega) W
    have cs : ¬ byt s 10 = 84 ∨ (byt s 10 = 84 ∧ ¬ byt s 13 = 58) ∨ (byt s 10 = 84 ∧ byt s 13 = 58 ∧ ¬ byt s 16 = 58) ∨ (byt s 10 = 84 ∧ byt s 13 = 58 ∧ byt s 16 = 58 ∧ ¬ byt s 19 = 90) := by omega
    obtain ⟨a, ha⟩ : ∃ a, byt s 10 = a := ⟨_, rfl⟩
    obtain ⟨b, hb⟩ : ∃ a, byt s 13 = a := ⟨_, rfl⟩
    obtain ⟨c, hc⟩ : ∃ a, byt s 16 = a := ⟨_, rfl⟩
    obtain ⟨d, hd⟩ : ∃ a, byt s 19 = a := ⟨_, rfl⟩
    simp only [ha, hb, hc, hd] at i10 i13 i16 i19 cs
    clear ha hb hc hd h h0
    rcases cs with k1 | ⟨rfl, k1⟩ | ⟨rfl, rfl, k1⟩ | ⟨rfl, rfl, rfl, k1⟩
    all_goals
      have n1 := beq_no k1
      go_enter Tryd.func24, Tryd.ntmps24
      go_wp2
      refine bodyPost_ret (results_row_tmp rfl _ _ w.heap.size 28 [.int .i64 0, .int .i64 0, .int .i64 0, .int .i64 0, .int .i64 0, .int .i64 0] _ _ rfl HR.out.holds Tryd.underlying28 rfl rutc_size rfl) rfl ?_
      exact ⟨rfl, HR.out.below⟩
  · have hne : ¬ (s.size : Int) = 20 := by omega
    have hnb := beq_no hne
    go_enter Tryd.func24, Tryd.ntmps24
    go_wp2
    refine bodyPost_ret (results_row_tmp rfl _ _ w.heap.size 28 [.int .i64 0, .int .i64 0, .int .i64 0, .int .i64 0, .int .i64 0, .int .i64 0] _ _ rfl HR.out.holds Tryd.underlying28 rfl rutc_size rfl) rfl ?_
    exact ⟨rfl, HR.out.below⟩
set_option maxRecDepth 100000 in
set_option maxHeartbeats 4000000 in
theorem ruparse_core (s : ByteArray) (w : World) (y m d : Int) (ok g : Bool) (hs : s.size = 20) (h10 : byt s 10 = 84) (h13 : byt s 13 = 58) (h16 : byt s 16 = 58) (h19 : byt s 19 = 90)
    (hp : ∀ W, Calls Tryd.prog 43 #[.string (s.extract 0 10)] W fun e w' => e = .returned (.tuple #[.agg #[.int .i64 y, .int .i64 m, .int .i64 d], .bool ok]) ∧ Below W.heap.size W w')
    (hg : goodU y m d (numD s 11 2) (numD s 14 2) (numD s 17 2) = g) :
    Calls Tryd.prog 24 #[.string s] w fun e w' => (((ok && g) = true ∧ e = .returned (.tuple #[.agg #[.int .i64 y, .int .i64 m, .int .i64 d, .int .i64 (numD s 11 2), .int .i64 (numD s 14 2), .int .i64 (numD s 17 2)], .bool true])) ∨ ((ok && g) = false ∧ e = .returned (.tuple #[.agg #[.int .i64 0, .int .i64 0, .int .i64 0, .int .i64 0, .int .i64 0, .int .i64 0], .bool false]))) ∧ Below w.heap.size w w' := by
  have HR := Lib.hid (Box.start w 28 #[.int .i64 0, .int .i64 0, .int .i64 0, .int .i64 0, .int .i64 0, .int .i64 0])
  have hne : (s.size : Int) = 20 := by omega
  have HP := Lib.hid hp
  have i10 : ∀ W, (Instr.index 9 (.string s) (.int .i64 10)).run Tryd.prog W = .ok (.int .u8 (byt s 10)) W := fun W => run_byte s 10 (by omega) W
  have i13 : ∀ W, (Instr.index 9 (.string s) (.int .i64 13)).run Tryd.prog W = .ok (.int .u8 (byt s 13)) W := fun W => run_byte s 13 (by omega) W
  have i16 : ∀ W, (Instr.index 9 (.string s) (.int .i64 16)).run Tryd.prog W = .ok (.int .u8 (byt s 16)) W := fun W => run_byte s 16 (by omega) W
  have i19 : ∀ W, (Instr.index 9 (.string s) (.int .i64 19)).run Tryd.prog W = .ok (.int .u8 (byt s 19)) W := fun W => run_byte s 19 (by omega) W
  rw [h10] at i10
  rw [h13] at i13
  rw [h16] at i16
  rw [h19] at i19
  have HN1 := Lib.hid (fun W => runum_any s (s.extract 11 13) 11 W (by rw [size_cut s 11 13 (by omega) (by omega)]) (fun j hj => byt_cut s 11 13 j (by omega) (by omega)))
  have HN2 := Lib.hid (fun W => runum_any s (s.extract 14 16) 14 W (by rw [size_cut s 14 16 (by omega) (by omega)]) (fun j hj => byt_cut s 14 16 j (by omega) (by omega)))
  have HN3 := Lib.hid (fun W => runum_any s (s.extract 17 19) 17 W (by rw [size_cut s 17 19 (by omega) (by omega)]) (fun j hj => byt_cut s 17 19 j (by omega) (by omega)))
  obtain ⟨H, hH⟩ : ∃ H, numD s 11 2 = H := ⟨_, rfl⟩
  obtain ⟨M, hM⟩ : ∃ H, numD s 14 2 = H := ⟨_, rfl⟩
  obtain ⟨S, hS⟩ : ∃ H, numD s 17 2 = H := ⟨_, rfl⟩
  simp only [hH, hM, hS] at hg HN1 HN2 HN3 ⊢
  have HG := Lib.hid hg
  have hsp : splice ([.int .i64 0, .int .i64 0, .int .i64 0, .int .i64 0, .int .i64 0, .int .i64 0] : List Value) 0 ([.int .i64 y, .int .i64 m, .int .i64 d, .int .i64 H, .int .i64 M, .int .i64 S] : List Value) = [.int .i64 y, .int .i64 m, .int .i64 d, .int .i64 H, .int .i64 M, .int .i64 S] := splice_all _ _ rfl
  clear hp hg hH hM hS hs h10 h13 h16 h19
  go_enter Tryd.func24, Tryd.ntmps24
  go_upto_region 4 with (go_at_call 43; refine (HP.out _).mono ?_; rintro e w1 ⟨rfl, hb1⟩)
  replace HR := Lib.hid (HR.out.next hb1)
  have HD0 := Lib.hid (Box.start w1 26 #[.int .i64 y, .int .i64 m, .int .i64 d])
  replace HR := Lib.hid (HR.out.next HD0.out.below)
  have HD := Lib.hid HD0.out.holds
  obtain ⟨bd, hbd⟩ : ∃ bd, w1.heap.size = bd := ⟨_, rfl⟩
  simp only [hbd] at HD ⊢
  obtain ⟨V1, hV1⟩ : ∃ V, V = (w1.alloc (.cells #[.int .i64 y, .int .i64 m, .int .i64 d] 26)) := ⟨_, rfl⟩
  rw [← hV1] at HR HD ⊢
  replace HR := Lib.hid (show Box w 28 #[.int .i64 0, .int .i64 0, .int .i64 0, .int .i64 0, .int .i64 0, .int .i64 0] V1.drew from HR.out.drew)
  replace HD := Lib.hid (show Holds V1.drew bd 26 #[.int .i64 y, .int .i64 m, .int .i64 d] from HD.out)
  clear hbd hV1 HD0 hb1 i10 i13 i16 i19
  refine region_turns (fun (w' : World) => w'.cell? ⟨bd, 0, none⟩ = some (.int .i64 y) ∧ w'.cell? ⟨bd, 1, none⟩ = some (.int .i64 m) ∧ w'.cell? ⟨bd, 2, none⟩ = some (.int .i64 d)) (fun j => decide (13 ≤ j)) (by kernel_rfl) (⟨HD.out.cell 0, HD.out.cell 1, HD.out.cell 2⟩) (fun hS => ?_)
  refine Turns.take hS 0 _ rfl (by kernel_rfl) (by kernel_rfl) (by kernel_rfl) (by kernel_rfl) (fun _ _ _ h => h) (by rfl) (fun w' hS' => by (try dsimp only at hS'); go_split_ands; go_simp; (try with_reducible rfl)) ?_
  simp only [Act.put, List.getElem_toArray, List.getElem_cons_succ, List.getElem_cons_zero, List.setIfInBounds_toArray, List.set_cons_zero, List.set_cons_succ]
  refine Turns.take hS 1 _ rfl (by kernel_rfl) (by kernel_rfl) (by kernel_rfl) (by kernel_rfl) (fun _ _ _ h => h) (by rfl) (fun w' hS' => by (try dsimp only at hS'); go_split_ands; go_simp; (try with_reducible rfl)) ?_
  simp only [Act.put, List.getElem_toArray, List.getElem_cons_succ, List.getElem_cons_zero, List.setIfInBounds_toArray, List.set_cons_zero, List.set_cons_succ]
  refine Turns.take hS 2 _ rfl (by kernel_rfl) (by kernel_rfl) (by kernel_rfl) (by kernel_rfl) (fun _ _ _ h => h) (by rfl) (fun w' hS' => by (try dsimp only at hS'); go_split_ands; go_simp; (try with_reducible rfl)) ?_
  simp only [Act.put, List.getElem_toArray, List.getElem_cons_succ, List.getElem_cons_zero, List.setIfInBounds_toArray, List.set_cons_zero, List.set_cons_succ]
  refine Turns.take hS 4 _ rfl (by kernel_rfl) (by kernel_rfl) (by kernel_rfl) (by kernel_rfl) (fun _ _ _ h => h) (by rfl) (fun w' hS' => by (try dsimp only at hS'); go_split_ands; go_simp; (try with_reducible rfl)) ?_
  simp only [Act.put, List.getElem_toArray, List.getElem_cons_succ, List.getElem_cons_zero, List.setIfInBounds_toArray, List.set_cons_zero, List.set_cons_succ]
  refine Turns.take hS 5 _ rfl (by kernel_rfl) (by kernel_rfl) (by kernel_rfl) (by kernel_rfl) (fun _ _ _ h => h) (by rfl) (fun w' hS' => by (try dsimp only at hS'); go_split_ands; go_simp; (try with_reducible rfl)) ?_
  simp only [Act.put, List.getElem_toArray, List.getElem_cons_succ, List.getElem_cons_zero, List.setIfInBounds_toArray, List.set_cons_zero, List.set_cons_succ]
  refine Turns.take hS 7 _ rfl (by kernel_rfl) (by kernel_rfl) (by kernel_rfl) (by kernel_rfl) (fun _ _ _ h => h) (by rfl) (fun w' hS' => by (try dsimp only at hS'); go_split_ands; go_simp; (try with_reducible rfl)) ?_
  simp only [Act.put, List.getElem_toArray, List.getElem_cons_succ, List.getElem_cons_zero, List.setIfInBounds_toArray, List.set_cons_zero, List.set_cons_succ]
  refine Turns.take hS 8 _ rfl (by kernel_rfl) (by kernel_rfl) (by kernel_rfl) (by kernel_rfl) (fun _ _ _ h => h) (by rfl) (fun w' hS' => by (try dsimp only at hS'); go_split_ands; go_simp; (try with_reducible rfl)) ?_
  simp only [Act.put, List.getElem_toArray, List.getElem_cons_succ, List.getElem_cons_zero, List.setIfInBounds_toArray, List.set_cons_zero, List.set_cons_succ]
  refine Turns.either 3 11 rfl rfl (by kernel_rfl) (by rfl) (by rfl) (fun K hK => ?_) (fun K hK => ?_)
  · go_simp
    go_at_call 44
    refine (HN1.out _).mono ?_
    rintro e w3 ⟨rfl, hb⟩
    replace HR := Lib.hid (HR.out.next hb)
    replace HD := Lib.hid (HD.out.below hb HD.out.lt)
    try replace HU := Lib.hid (HU.out.below hb HU.out.lt)
    clear hb
    refine hK.out _ _ (show (fun (w' : World) => w'.cell? ⟨bd, 0, none⟩ = some (.int .i64 y) ∧ w'.cell? ⟨bd, 1, none⟩ = some (.int .i64 m) ∧ w'.cell? ⟨bd, 2, none⟩ = some (.int .i64 d)) _ from ⟨HD.out.cell 0, HD.out.cell 1, HD.out.cell 2⟩) ?_
    clear hK K hS
    have hS := (show (fun (w' : World) => w'.cell? ⟨bd, 0, none⟩ = some (.int .i64 y) ∧ w'.cell? ⟨bd, 1, none⟩ = some (.int .i64 m) ∧ w'.cell? ⟨bd, 2, none⟩ = some (.int .i64 d)) _ from ⟨HD.out.cell 0, HD.out.cell 1, HD.out.cell 2⟩)
    refine Turns.either 6 11 rfl rfl (by kernel_rfl) (by rfl) (by rfl) (fun K hK => ?_) (fun K hK => ?_)
    · go_simp
      go_at_call 44
      refine (HN2.out _).mono ?_
      rintro e w6 ⟨rfl, hb⟩
      replace HR := Lib.hid (HR.out.next hb)
      replace HD := Lib.hid (HD.out.below hb HD.out.lt)
      try replace HU := Lib.hid (HU.out.below hb HU.out.lt)
      clear hb
      refine hK.out _ _ (show (fun (w' : World) => w'.cell? ⟨bd, 0, none⟩ = some (.int .i64 y) ∧ w'.cell? ⟨bd, 1, none⟩ = some (.int .i64 m) ∧ w'.cell? ⟨bd, 2, none⟩ = some (.int .i64 d)) _ from ⟨HD.out.cell 0, HD.out.cell 1, HD.out.cell 2⟩) ?_
      clear hK K hS
      have hS := (show (fun (w' : World) => w'.cell? ⟨bd, 0, none⟩ = some (.int .i64 y) ∧ w'.cell? ⟨bd, 1, none⟩ = some (.int .i64 m) ∧ w'.cell? ⟨bd, 2, none⟩ = some (.int .i64 d)) _ from ⟨HD.out.cell 0, HD.out.cell 1, HD.out.cell 2⟩)
      refine Turns.either 9 11 rfl rfl (by kernel_rfl) (by rfl) (by rfl) (fun K hK => ?_) (fun K hK => ?_)
      · go_simp
        go_at_call 44
        refine (HN3.out _).mono ?_
        rintro e w9 ⟨rfl, hb⟩
        replace HR := Lib.hid (HR.out.next hb)
        replace HD := Lib.hid (HD.out.below hb HD.out.lt)
        try replace HU := Lib.hid (HU.out.below hb HU.out.lt)
        clear hb
        refine hK.out _ _ (show (fun (w' : World) => w'.cell? ⟨bd, 0, none⟩ = some (.int .i64 y) ∧ w'.cell? ⟨bd, 1, none⟩ = some (.int .i64 m) ∧ w'.cell? ⟨bd, 2, none⟩ = some (.int .i64 d)) _ from ⟨HD.out.cell 0, HD.out.cell 1, HD.out.cell 2⟩) ?_
        clear hK K hS
        have hS := (show (fun (w' : World) => w'.cell? ⟨bd, 0, none⟩ = some (.int .i64 y) ∧ w'.cell? ⟨bd, 1, none⟩ = some (.int .i64 m) ∧ w'.cell? ⟨bd, 2, none⟩ = some (.int .i64 d)) _ from ⟨HD.out.cell 0, HD.out.cell 1, HD.out.cell 2⟩)
        refine Turns.take hS 10 _ rfl (by kernel_rfl) (by kernel_rfl) (by kernel_rfl) (by kernel_rfl) (fun _ _ _ h => h) (by rfl) (fun w' hS' => by (try dsimp only at hS'); go_split_ands; go_simp; (try with_reducible rfl)) ?_
        simp only [Act.put, List.getElem_toArray, List.getElem_cons_succ, List.getElem_cons_zero, List.setIfInBounds_toArray, List.set_cons_zero, List.set_cons_succ]
        refine Turns.next 11 rfl (by kernel_rfl) (by rfl) (fun K hK => ?_)
        go_simp
        have hlt : w.heap.size < w9.heap.size ∧ bd < w9.heap.size := ⟨HR.out.lt, HD.out.lt⟩
        have he := Holds.new w9 28 #[.int .i64 0, .int .i64 0, .int .i64 0, .int .i64 0, .int .i64 0, .int .i64 0]
        have hbl : Below w9.heap.size w9 (w9.alloc (.cells #[.int .i64 0, .int .i64 0, .int .i64 0, .int .i64 0, .int .i64 0, .int .i64 0] 28)) := below_alloc _ _
        replace HR := Lib.hid (HR.out.next hbl)
        replace HD := Lib.hid (HD.out.below hbl HD.out.lt)
        have HU : Hid (Holds (w9.alloc (.cells #[.int .i64 0, .int .i64 0, .int .i64 0, .int .i64 0, .int .i64 0, .int .i64 0] 28)) w9.heap.size 28 #[.int .i64 0, .int .i64 0, .int .i64 0, .int .i64 0, .int .i64 0, .int .i64 0]) := Lib.hid he
        obtain ⟨xe, hxe⟩ : ∃ xe, w9.heap.size = xe := ⟨_, rfl⟩
        rw [hxe] at hlt HU
        simp only [hxe]
        obtain ⟨U, hU⟩ : ∃ U, U = (w9.alloc (.cells #[.int .i64 0, .int .i64 0, .int .i64 0, .int .i64 0, .int .i64 0, .int .i64 0] 28)) := ⟨_, rfl⟩
        rw [← hU] at HR HD HU ⊢
        have HLT := Lib.hid hlt
        clear hxe hU hlt he hbl
        refine hK.out _ _ (show (fun (w' : World) => w'.cell? ⟨bd, 0, none⟩ = some (.int .i64 y) ∧ w'.cell? ⟨bd, 1, none⟩ = some (.int .i64 m) ∧ w'.cell? ⟨bd, 2, none⟩ = some (.int .i64 d)) _ from ⟨HD.out.cell 0, HD.out.cell 1, HD.out.cell 2⟩) ?_
        clear hK K hS
        have hS := (show (fun (w' : World) => w'.cell? ⟨bd, 0, none⟩ = some (.int .i64 y) ∧ w'.cell? ⟨bd, 1, none⟩ = some (.int .i64 m) ∧ w'.cell? ⟨bd, 2, none⟩ = some (.int .i64 d)) _ from ⟨HD.out.cell 0, HD.out.cell 1, HD.out.cell 2⟩)
        refine Turns.next 12 rfl (by kernel_rfl) (by rfl) (fun K hK => ?_)
        simp only [List.getElem_toArray, List.getElem_cons_succ, List.getElem_cons_zero]
        refine wp_store_at 28 (.tmp 6) (.tmp 47) rfl xe 0 [.int .i64 y, .int .i64 m, .int .i64 d, .int .i64 H, .int .i64 M, .int .i64 S] ?hs ?hx 28 [.int .i64 0, .int .i64 0, .int .i64 0, .int .i64 0, .int .i64 0, .int .i64 0] HU.out (by kernel_rfl) (Nat.le_refl 6) (one_ints6 _ _ _ _ _ _) ?_
        case hs => first | rfl | simp [Act.eval, Act.put]
        case hx => first | rfl | simp [Act.eval, Act.put]
        rw [hsp]
        replace HR := Lib.hid (HR.out.aside HLT.out.1 [.int .i64 y, .int .i64 m, .int .i64 d, .int .i64 H, .int .i64 M, .int .i64 S].toArray)
        replace HD := Lib.hid (HD.out.grown (grown_row _ xe [.int .i64 y, .int .i64 m, .int .i64 d, .int .i64 H, .int .i64 M, .int .i64 S].toArray) (fun e => absurd (Option.some.inj e) (by have := HLT.out; omega)))
        replace HU := Lib.hid (HU.out.row [.int .i64 y, .int .i64 m, .int .i64 d, .int .i64 H, .int .i64 M, .int .i64 S].toArray)
        refine hK.out _ _ (show (fun (w' : World) => w'.cell? ⟨bd, 0, none⟩ = some (.int .i64 y) ∧ w'.cell? ⟨bd, 1, none⟩ = some (.int .i64 m) ∧ w'.cell? ⟨bd, 2, none⟩ = some (.int .i64 d)) _ from ⟨HD.out.cell 0, HD.out.cell 1, HD.out.cell 2⟩) ?_
        clear hK K hS
        have hS := (show (fun (w' : World) => w'.cell? ⟨bd, 0, none⟩ = some (.int .i64 y) ∧ w'.cell? ⟨bd, 1, none⟩ = some (.int .i64 m) ∧ w'.cell? ⟨bd, 2, none⟩ = some (.int .i64 d)) _ from ⟨HD.out.cell 0, HD.out.cell 1, HD.out.cell 2⟩)
        refine Turns.rest (late_done (by kernel_rfl)) ?_
        refine any_tail 13 (by rfl) (by kernel_rfl) ?_
        simp only [List.drop_succ_cons, List.drop_zero]
        clear hS
        have u0 := HU.out.cell 0
        have u1 := HU.out.cell 1
        have u2 := HU.out.cell 2
        have u3 := HU.out.cell 3
        have u4 := HU.out.cell 4
        have u5 := HU.out.cell 5
        obtain ⟨r0, r1, r2, r3, r4, r5, g0, g1, g2, g3, g4, g5⟩ := HR.out.six
        clear HN1 HN2 HN3 HP HD hne
        cases ok with
        | false =>
          go_wp2
          refine bodyPost_ret (results_row_tmp rfl _ _ w.heap.size 28 [.int .i64 0, .int .i64 0, .int .i64 0, .int .i64 0, .int .i64 0, .int .i64 0] _ _ rfl (HR.out.fill _ _ _ _ _ _).holds Tryd.underlying28 rfl rutc_size rfl) rfl ?_
          exact ⟨.inr ⟨rfl, rfl⟩, (HR.out.fill _ _ _ _ _ _).below⟩
        | true =>
          clear r0 r1 r2 r3 r4 r5 g0 g1 g2 g3 g4 g5
          cases g with
          | false =>
            go_wp2_with (go_at_call 21; refine (rugood_any y m d H M S _).mono ?_; rintro e w9 ⟨rfl, hb9⟩; rw [HG.out]; replace HR := Lib.hid (HR.out.next hb9); replace HU := Lib.hid (HU.out.below hb9 HU.out.lt); clear u0 u1 u2 u3 u4 u5 hb9; obtain ⟨r0, r1, r2, r3, r4, r5, g0, g1, g2, g3, g4, g5⟩ := HR.out.six; have u0 := HU.out.cell 0; have u1 := HU.out.cell 1; have u2 := HU.out.cell 2; have u3 := HU.out.cell 3; have u4 := HU.out.cell 4; have u5 := HU.out.cell 5)
            refine bodyPost_ret (results_row_tmp rfl _ _ w.heap.size 28 [.int .i64 0, .int .i64 0, .int .i64 0, .int .i64 0, .int .i64 0, .int .i64 0] _ _ rfl (HR.out.fill _ _ _ _ _ _).holds Tryd.underlying28 rfl rutc_size rfl) rfl ?_
            exact ⟨.inr ⟨rfl, rfl⟩, (HR.out.fill _ _ _ _ _ _).below⟩
          | true =>
            go_wp2_with (go_at_call 21; refine (rugood_any y m d H M S _).mono ?_; rintro e w9 ⟨rfl, hb9⟩; rw [HG.out]; replace HR := Lib.hid (HR.out.next hb9); replace HU := Lib.hid (HU.out.below hb9 HU.out.lt); clear u0 u1 u2 u3 u4 u5 hb9; obtain ⟨r0, r1, r2, r3, r4, r5, g0, g1, g2, g3, g4, g5⟩ := HR.out.six; have u0 := HU.out.cell 0; have u1 := HU.out.cell 1; have u2 := HU.out.cell 2; have u3 := HU.out.cell 3; have u4 := HU.out.cell 4; have u5 := HU.out.cell 5)
            refine bodyPost_ret (results_row_tmp rfl _ _ w.heap.size 28 [.int .i64 y, .int .i64 m, .int .i64 d, .int .i64 H, .int .i64 M, .int .i64 S] _ _ rfl (HR.out.fill _ _ _ _ _ _).holds Tryd.underlying28 rfl rutc_size rfl) rfl ?_
            exact ⟨.inl ⟨rfl, rfl⟩, (HR.out.fill _ _ _ _ _ _).below⟩
      · go_simp
        have hlt : w.heap.size < w6.heap.size ∧ bd < w6.heap.size := ⟨HR.out.lt, HD.out.lt⟩
        have he := Holds.new w6 28 #[.int .i64 0, .int .i64 0, .int .i64 0, .int .i64 0, .int .i64 0, .int .i64 0]
        have hbl : Below w6.heap.size w6 (w6.alloc (.cells #[.int .i64 0, .int .i64 0, .int .i64 0, .int .i64 0, .int .i64 0, .int .i64 0] 28)) := below_alloc _ _
        replace HR := Lib.hid (HR.out.next hbl)
        replace HD := Lib.hid (HD.out.below hbl HD.out.lt)
        have HU : Hid (Holds (w6.alloc (.cells #[.int .i64 0, .int .i64 0, .int .i64 0, .int .i64 0, .int .i64 0, .int .i64 0] 28)) w6.heap.size 28 #[.int .i64 0, .int .i64 0, .int .i64 0, .int .i64 0, .int .i64 0, .int .i64 0]) := Lib.hid he
        obtain ⟨xe, hxe⟩ : ∃ xe, w6.heap.size = xe := ⟨_, rfl⟩
        rw [hxe] at hlt HU
        simp only [hxe]
        obtain ⟨U, hU⟩ : ∃ U, U = (w6.alloc (.cells #[.int .i64 0, .int .i64 0, .int .i64 0, .int .i64 0, .int .i64 0, .int .i64 0] 28)) := ⟨_, rfl⟩
        rw [← hU] at HR HD HU ⊢
        have HLT := Lib.hid hlt
        clear hxe hU hlt he hbl
        refine hK.out _ _ (show (fun (w' : World) => w'.cell? ⟨bd, 0, none⟩ = some (.int .i64 y) ∧ w'.cell? ⟨bd, 1, none⟩ = some (.int .i64 m) ∧ w'.cell? ⟨bd, 2, none⟩ = some (.int .i64 d)) _ from ⟨HD.out.cell 0, HD.out.cell 1, HD.out.cell 2⟩) ?_
        clear hK K hS
        have hS := (show (fun (w' : World) => w'.cell? ⟨bd, 0, none⟩ = some (.int .i64 y) ∧ w'.cell? ⟨bd, 1, none⟩ = some (.int .i64 m) ∧ w'.cell? ⟨bd, 2, none⟩ = some (.int .i64 d)) _ from ⟨HD.out.cell 0, HD.out.cell 1, HD.out.cell 2⟩)
        refine Turns.next 9 rfl (by kernel_rfl) (by rfl) (fun K hK => ?_)
        go_simp
        go_at_call 44
        refine (HN3.out _).mono ?_
        rintro e w9 ⟨rfl, hb⟩
        replace HR := Lib.hid (HR.out.next hb)
        replace HD := Lib.hid (HD.out.below hb HD.out.lt)
        try replace HU := Lib.hid (HU.out.below hb HU.out.lt)
        clear hb
        refine hK.out _ _ (show (fun (w' : World) => w'.cell? ⟨bd, 0, none⟩ = some (.int .i64 y) ∧ w'.cell? ⟨bd, 1, none⟩ = some (.int .i64 m) ∧ w'.cell? ⟨bd, 2, none⟩ = some (.int .i64 d)) _ from ⟨HD.out.cell 0, HD.out.cell 1, HD.out.cell 2⟩) ?_
        clear hK K hS
        have hS := (show (fun (w' : World) => w'.cell? ⟨bd, 0, none⟩ = some (.int .i64 y) ∧ w'.cell? ⟨bd, 1, none⟩ = some (.int .i64 m) ∧ w'.cell? ⟨bd, 2, none⟩ = some (.int .i64 d)) _ from ⟨HD.out.cell 0, HD.out.cell 1, HD.out.cell 2⟩)
        refine Turns.take hS 10 _ rfl (by kernel_rfl) (by kernel_rfl) (by kernel_rfl) (by kernel_rfl) (fun _ _ _ h => h) (by rfl) (fun w' hS' => by (try dsimp only at hS'); go_split_ands; go_simp; (try with_reducible rfl)) ?_
        simp only [Act.put, List.getElem_toArray, List.getElem_cons_succ, List.getElem_cons_zero, List.setIfInBounds_toArray, List.set_cons_zero, List.set_cons_succ]
        refine Turns.next 12 rfl (by kernel_rfl) (by rfl) (fun K hK => ?_)
        simp only [List.getElem_toArray, List.getElem_cons_succ, List.getElem_cons_zero]
        refine wp_store_at 28 (.tmp 6) (.tmp 47) rfl xe 0 [.int .i64 y, .int .i64 m, .int .i64 d, .int .i64 H, .int .i64 M, .int .i64 S] ?hs ?hx 28 [.int .i64 0, .int .i64 0, .int .i64 0, .int .i64 0, .int .i64 0, .int .i64 0] HU.out (by kernel_rfl) (Nat.le_refl 6) (one_ints6 _ _ _ _ _ _) ?_
        case hs => first | rfl | simp [Act.eval, Act.put]
        case hx => first | rfl | simp [Act.eval, Act.put]
        rw [hsp]
        replace HR := Lib.hid (HR.out.aside HLT.out.1 [.int .i64 y, .int .i64 m, .int .i64 d, .int .i64 H, .int .i64 M, .int .i64 S].toArray)
        replace HD := Lib.hid (HD.out.grown (grown_row _ xe [.int .i64 y, .int .i64 m, .int .i64 d, .int .i64 H, .int .i64 M, .int .i64 S].toArray) (fun e => absurd (Option.some.inj e) (by have := HLT.out; omega)))
        replace HU := Lib.hid (HU.out.row [.int .i64 y, .int .i64 m, .int .i64 d, .int .i64 H, .int .i64 M, .int .i64 S].toArray)
        refine hK.out _ _ (show (fun (w' : World) => w'.cell? ⟨bd, 0, none⟩ = some (.int .i64 y) ∧ w'.cell? ⟨bd, 1, none⟩ = some (.int .i64 m) ∧ w'.cell? ⟨bd, 2, none⟩ = some (.int .i64 d)) _ from ⟨HD.out.cell 0, HD.out.cell 1, HD.out.cell 2⟩) ?_
        clear hK K hS
        have hS := (show (fun (w' : World) => w'.cell? ⟨bd, 0, none⟩ = some (.int .i64 y) ∧ w'.cell? ⟨bd, 1, none⟩ = some (.int .i64 m) ∧ w'.cell? ⟨bd, 2, none⟩ = some (.int .i64 d)) _ from ⟨HD.out.cell 0, HD.out.cell 1, HD.out.cell 2⟩)
        refine Turns.rest (late_done (by kernel_rfl)) ?_
        refine any_tail 13 (by rfl) (by kernel_rfl) ?_
        simp only [List.drop_succ_cons, List.drop_zero]
        clear hS
        have u0 := HU.out.cell 0
        have u1 := HU.out.cell 1
        have u2 := HU.out.cell 2
        have u3 := HU.out.cell 3
        have u4 := HU.out.cell 4
        have u5 := HU.out.cell 5
        obtain ⟨r0, r1, r2, r3, r4, r5, g0, g1, g2, g3, g4, g5⟩ := HR.out.six
        clear HN1 HN2 HN3 HP HD hne
        cases ok with
        | false =>
          go_wp2
          refine bodyPost_ret (results_row_tmp rfl _ _ w.heap.size 28 [.int .i64 0, .int .i64 0, .int .i64 0, .int .i64 0, .int .i64 0, .int .i64 0] _ _ rfl (HR.out.fill _ _ _ _ _ _).holds Tryd.underlying28 rfl rutc_size rfl) rfl ?_
          exact ⟨.inr ⟨rfl, rfl⟩, (HR.out.fill _ _ _ _ _ _).below⟩
        | true =>
          clear r0 r1 r2 r3 r4 r5 g0 g1 g2 g3 g4 g5
          cases g with
          | false =>
            go_wp2_with (go_at_call 21; refine (rugood_any y m d H M S _).mono ?_; rintro e w9 ⟨rfl, hb9⟩; rw [HG.out]; replace HR := Lib.hid (HR.out.next hb9); replace HU := Lib.hid (HU.out.below hb9 HU.out.lt); clear u0 u1 u2 u3 u4 u5 hb9; obtain ⟨r0, r1, r2, r3, r4, r5, g0, g1, g2, g3, g4, g5⟩ := HR.out.six; have u0 := HU.out.cell 0; have u1 := HU.out.cell 1; have u2 := HU.out.cell 2; have u3 := HU.out.cell 3; have u4 := HU.out.cell 4; have u5 := HU.out.cell 5)
            refine bodyPost_ret (results_row_tmp rfl _ _ w.heap.size 28 [.int .i64 0, .int .i64 0, .int .i64 0, .int .i64 0, .int .i64 0, .int .i64 0] _ _ rfl (HR.out.fill _ _ _ _ _ _).holds Tryd.underlying28 rfl rutc_size rfl) rfl ?_
            exact ⟨.inr ⟨rfl, rfl⟩, (HR.out.fill _ _ _ _ _ _).below⟩
          | true =>
            go_wp2_with (go_at_call 21; refine (rugood_any y m d H M S _).mono ?_; rintro e w9 ⟨rfl, hb9⟩; rw [HG.out]; replace HR := Lib.hid (HR.out.next hb9); replace HU := Lib.hid (HU.out.below hb9 HU.out.lt); clear u0 u1 u2 u3 u4 u5 hb9; obtain ⟨r0, r1, r2, r3, r4, r5, g0, g1, g2, g3, g4, g5⟩ := HR.out.six; have u0 := HU.out.cell 0; have u1 := HU.out.cell 1; have u2 := HU.out.cell 2; have u3 := HU.out.cell 3; have u4 := HU.out.cell 4; have u5 := HU.out.cell 5)
            refine bodyPost_ret (results_row_tmp rfl _ _ w.heap.size 28 [.int .i64 y, .int .i64 m, .int .i64 d, .int .i64 H, .int .i64 M, .int .i64 S] _ _ rfl (HR.out.fill _ _ _ _ _ _).holds Tryd.underlying28 rfl rutc_size rfl) rfl ?_
            exact ⟨.inl ⟨rfl, rfl⟩, (HR.out.fill _ _ _ _ _ _).below⟩
    · go_simp
      have hlt : w.heap.size < w3.heap.size ∧ bd < w3.heap.size := ⟨HR.out.lt, HD.out.lt⟩
      have he := Holds.new w3 28 #[.int .i64 0, .int .i64 0, .int .i64 0, .int .i64 0, .int .i64 0, .int .i64 0]
      have hbl : Below w3.heap.size w3 (w3.alloc (.cells #[.int .i64 0, .int .i64 0, .int .i64 0, .int .i64 0, .int .i64 0, .int .i64 0] 28)) := below_alloc _ _
      replace HR := Lib.hid (HR.out.next hbl)
      replace HD := Lib.hid (HD.out.below hbl HD.out.lt)
      have HU : Hid (Holds (w3.alloc (.cells #[.int .i64 0, .int .i64 0, .int .i64 0, .int .i64 0, .int .i64 0, .int .i64 0] 28)) w3.heap.size 28 #[.int .i64 0, .int .i64 0, .int .i64 0, .int .i64 0, .int .i64 0, .int .i64 0]) := Lib.hid he
      obtain ⟨xe, hxe⟩ : ∃ xe, w3.heap.size = xe := ⟨_, rfl⟩
      rw [hxe] at hlt HU
      simp only [hxe]
      obtain ⟨U, hU⟩ : ∃ U, U = (w3.alloc (.cells #[.int .i64 0, .int .i64 0, .int .i64 0, .int .i64 0, .int .i64 0, .int .i64 0] 28)) := ⟨_, rfl⟩
      rw [← hU] at HR HD HU ⊢
      have HLT := Lib.hid hlt
      clear hxe hU hlt he hbl
      refine hK.out _ _ (show (fun (w' : World) => w'.cell? ⟨bd, 0, none⟩ = some (.int .i64 y) ∧ w'.cell? ⟨bd, 1, none⟩ = some (.int .i64 m) ∧ w'.cell? ⟨bd, 2, none⟩ = some (.int .i64 d)) _ from ⟨HD.out.cell 0, HD.out.cell 1, HD.out.cell 2⟩) ?_
      clear hK K hS
      have hS := (show (fun (w' : World) => w'.cell? ⟨bd, 0, none⟩ = some (.int .i64 y) ∧ w'.cell? ⟨bd, 1, none⟩ = some (.int .i64 m) ∧ w'.cell? ⟨bd, 2, none⟩ = some (.int .i64 d)) _ from ⟨HD.out.cell 0, HD.out.cell 1, HD.out.cell 2⟩)
      refine Turns.next 6 rfl (by kernel_rfl) (by rfl) (fun K hK => ?_)
      go_simp
      go_at_call 44
      refine (HN2.out _).mono ?_
      rintro e w6 ⟨rfl, hb⟩
      replace HR := Lib.hid (HR.out.next hb)
      replace HD := Lib.hid (HD.out.below hb HD.out.lt)
      try replace HU := Lib.hid (HU.out.below hb HU.out.lt)
      clear hb
      refine hK.out _ _ (show (fun (w' : World) => w'.cell? ⟨bd, 0, none⟩ = some (.int .i64 y) ∧ w'.cell? ⟨bd, 1, none⟩ = some (.int .i64 m) ∧ w'.cell? ⟨bd, 2, none⟩ = some (.int .i64 d)) _ from ⟨HD.out.cell 0, HD.out.cell 1, HD.out.cell 2⟩) ?_
      clear hK K hS
      have hS := (show (fun (w' : World) => w'.cell? ⟨bd, 0, none⟩ = some (.int .i64 y) ∧ w'.cell? ⟨bd, 1, none⟩ = some (.int .i64 m) ∧ w'.cell? ⟨bd, 2, none⟩ = some (.int .i64 d)) _ from ⟨HD.out.cell 0, HD.out.cell 1, HD.out.cell 2⟩)
      refine Turns.next 9 rfl (by kernel_rfl) (by rfl) (fun K hK => ?_)
      go_simp
      go_at_call 44
      refine (HN3.out _).mono ?_
      rintro e w9 ⟨rfl, hb⟩
      replace HR := Lib.hid (HR.out.next hb)
      replace HD := Lib.hid (HD.out.below hb HD.out.lt)
      try replace HU := Lib.hid (HU.out.below hb HU.out.lt)
      clear hb
      refine hK.out _ _ (show (fun (w' : World) => w'.cell? ⟨bd, 0, none⟩ = some (.int .i64 y) ∧ w'.cell? ⟨bd, 1, none⟩ = some (.int .i64 m) ∧ w'.cell? ⟨bd, 2, none⟩ = some (.int .i64 d)) _ from ⟨HD.out.cell 0, HD.out.cell 1, HD.out.cell 2⟩) ?_
      clear hK K hS
      have hS := (show (fun (w' : World) => w'.cell? ⟨bd, 0, none⟩ = some (.int .i64 y) ∧ w'.cell? ⟨bd, 1, none⟩ = some (.int .i64 m) ∧ w'.cell? ⟨bd, 2, none⟩ = some (.int .i64 d)) _ from ⟨HD.out.cell 0, HD.out.cell 1, HD.out.cell 2⟩)
      refine Turns.take hS 10 _ rfl (by kernel_rfl) (by kernel_rfl) (by kernel_rfl) (by kernel_rfl) (fun _ _ _ h => h) (by rfl) (fun w' hS' => by (try dsimp only at hS'); go_split_ands; go_simp; (try with_reducible rfl)) ?_
      simp only [Act.put, List.getElem_toArray, List.getElem_cons_succ, List.getElem_cons_zero, List.setIfInBounds_toArray, List.set_cons_zero, List.set_cons_succ]
      refine Turns.next 12 rfl (by kernel_rfl) (by rfl) (fun K hK => ?_)
      simp only [List.getElem_toArray, List.getElem_cons_succ, List.getElem_cons_zero]
      refine wp_store_at 28 (.tmp 6) (.tmp 47) rfl xe 0 [.int .i64 y, .int .i64 m, .int .i64 d, .int .i64 H, .int .i64 M, .int .i64 S] ?hs ?hx 28 [.int .i64 0, .int .i64 0, .int .i64 0, .int .i64 0, .int .i64 0, .int .i64 0] HU.out (by kernel_rfl) (Nat.le_refl 6) (one_ints6 _ _ _ _ _ _) ?_
      case hs => first | rfl | simp [Act.eval, Act.put]
      case hx => first | rfl | simp [Act.eval, Act.put]
      rw [hsp]
      replace HR := Lib.hid (HR.out.aside HLT.out.1 [.int .i64 y, .int .i64 m, .int .i64 d, .int .i64 H, .int .i64 M, .int .i64 S].toArray)
      replace HD := Lib.hid (HD.out.grown (grown_row _ xe [.int .i64 y, .int .i64 m, .int .i64 d, .int .i64 H, .int .i64 M, .int .i64 S].toArray) (fun e => absurd (Option.some.inj e) (by have := HLT.out; omega)))
      replace HU := Lib.hid (HU.out.row [.int .i64 y, .int .i64 m, .int .i64 d, .int .i64 H, .int .i64 M, .int .i64 S].toArray)
      refine hK.out _ _ (show (fun (w' : World) => w'.cell? ⟨bd, 0, none⟩ = some (.int .i64 y) ∧ w'.cell? ⟨bd, 1, none⟩ = some (.int .i64 m) ∧ w'.cell? ⟨bd, 2, none⟩ = some (.int .i64 d)) _ from ⟨HD.out.cell 0, HD.out.cell 1, HD.out.cell 2⟩) ?_
      clear hK K hS
      have hS := (show (fun (w' : World) => w'.cell? ⟨bd, 0, none⟩ = some (.int .i64 y) ∧ w'.cell? ⟨bd, 1, none⟩ = some (.int .i64 m) ∧ w'.cell? ⟨bd, 2, none⟩ = some (.int .i64 d)) _ from ⟨HD.out.cell 0, HD.out.cell 1, HD.out.cell 2⟩)
      refine Turns.rest (late_done (by kernel_rfl)) ?_
      refine any_tail 13 (by rfl) (by kernel_rfl) ?_
      simp only [List.drop_succ_cons, List.drop_zero]
      clear hS
      have u0 := HU.out.cell 0
      have u1 := HU.out.cell 1
      have u2 := HU.out.cell 2
      have u3 := HU.out.cell 3
      have u4 := HU.out.cell 4
      have u5 := HU.out.cell 5
      obtain ⟨r0, r1, r2, r3, r4, r5, g0, g1, g2, g3, g4, g5⟩ := HR.out.six
      clear HN1 HN2 HN3 HP HD hne
      cases ok with
      | false =>
        go_wp2
        refine bodyPost_ret (results_row_tmp rfl _ _ w.heap.size 28 [.int .i64 0, .int .i64 0, .int .i64 0, .int .i64 0, .int .i64 0, .int .i64 0] _ _ rfl (HR.out.fill _ _ _ _ _ _).holds Tryd.underlying28 rfl rutc_size rfl) rfl ?_
        exact ⟨.inr ⟨rfl, rfl⟩, (HR.out.fill _ _ _ _ _ _).below⟩
      | true =>
        clear r0 r1 r2 r3 r4 r5 g0 g1 g2 g3 g4 g5
        cases g with
        | false =>
          go_wp2_with (go_at_call 21; refine (rugood_any y m d H M S _).mono ?_; rintro e w9 ⟨rfl, hb9⟩; rw [HG.out]; replace HR := Lib.hid (HR.out.next hb9); replace HU := Lib.hid (HU.out.below hb9 HU.out.lt); clear u0 u1 u2 u3 u4 u5 hb9; obtain ⟨r0, r1, r2, r3, r4, r5, g0, g1, g2, g3, g4, g5⟩ := HR.out.six; have u0 := HU.out.cell 0; have u1 := HU.out.cell 1; have u2 := HU.out.cell 2; have u3 := HU.out.cell 3; have u4 := HU.out.cell 4; have u5 := HU.out.cell 5)
          refine bodyPost_ret (results_row_tmp rfl _ _ w.heap.size 28 [.int .i64 0, .int .i64 0, .int .i64 0, .int .i64 0, .int .i64 0, .int .i64 0] _ _ rfl (HR.out.fill _ _ _ _ _ _).holds Tryd.underlying28 rfl rutc_size rfl) rfl ?_
          exact ⟨.inr ⟨rfl, rfl⟩, (HR.out.fill _ _ _ _ _ _).below⟩
        | true =>
          go_wp2_with (go_at_call 21; refine (rugood_any y m d H M S _).mono ?_; rintro e w9 ⟨rfl, hb9⟩; rw [HG.out]; replace HR := Lib.hid (HR.out.next hb9); replace HU := Lib.hid (HU.out.below hb9 HU.out.lt); clear u0 u1 u2 u3 u4 u5 hb9; obtain ⟨r0, r1, r2, r3, r4, r5, g0, g1, g2, g3, g4, g5⟩ := HR.out.six; have u0 := HU.out.cell 0; have u1 := HU.out.cell 1; have u2 := HU.out.cell 2; have u3 := HU.out.cell 3; have u4 := HU.out.cell 4; have u5 := HU.out.cell 5)
          refine bodyPost_ret (results_row_tmp rfl _ _ w.heap.size 28 [.int .i64 y, .int .i64 m, .int .i64 d, .int .i64 H, .int .i64 M, .int .i64 S] _ _ rfl (HR.out.fill _ _ _ _ _ _).holds Tryd.underlying28 rfl rutc_size rfl) rfl ?_
          exact ⟨.inl ⟨rfl, rfl⟩, (HR.out.fill _ _ _ _ _ _).below⟩
  · go_simp
    have hlt : w.heap.size < V1.heap.size ∧ bd < V1.heap.size := ⟨HR.out.lt, HD.out.lt⟩
    have he := Holds.new V1 28 #[.int .i64 0, .int .i64 0, .int .i64 0, .int .i64 0, .int .i64 0, .int .i64 0]
    have hbl : Below V1.drew.heap.size V1.drew (V1.alloc (.cells #[.int .i64 0, .int .i64 0, .int .i64 0, .int .i64 0, .int .i64 0, .int .i64 0] 28)).drew := (show Below V1.drew.heap.size V1.drew (V1.drew.alloc (.cells #[.int .i64 0, .int .i64 0, .int .i64 0, .int .i64 0, .int .i64 0, .int .i64 0] 28)) from below_alloc _ _)
    replace HR := Lib.hid (HR.out.next hbl)
    replace HD := Lib.hid (HD.out.below hbl HD.out.lt)
    have HU : Hid (Holds (V1.alloc (.cells #[.int .i64 0, .int .i64 0, .int .i64 0, .int .i64 0, .int .i64 0, .int .i64 0] 28)).drew V1.heap.size 28 #[.int .i64 0, .int .i64 0, .int .i64 0, .int .i64 0, .int .i64 0, .int .i64 0]) := Lib.hid he
    obtain ⟨xe, hxe⟩ : ∃ xe, V1.heap.size = xe := ⟨_, rfl⟩
    rw [hxe] at hlt HU
    simp only [hxe]
    obtain ⟨U, hU⟩ : ∃ U, U = (V1.alloc (.cells #[.int .i64 0, .int .i64 0, .int .i64 0, .int .i64 0, .int .i64 0, .int .i64 0] 28)).drew := ⟨_, rfl⟩
    rw [← hU] at HR HD HU ⊢
    have HLT := Lib.hid hlt
    clear hxe hU hlt he hbl
    refine hK.out _ _ (show (fun (w' : World) => w'.cell? ⟨bd, 0, none⟩ = some (.int .i64 y) ∧ w'.cell? ⟨bd, 1, none⟩ = some (.int .i64 m) ∧ w'.cell? ⟨bd, 2, none⟩ = some (.int .i64 d)) _ from ⟨HD.out.cell 0, HD.out.cell 1, HD.out.cell 2⟩) ?_
    clear hK K hS
    have hS := (show (fun (w' : World) => w'.cell? ⟨bd, 0, none⟩ = some (.int .i64 y) ∧ w'.cell? ⟨bd, 1, none⟩ = some (.int .i64 m) ∧ w'.cell? ⟨bd, 2, none⟩ = some (.int .i64 d)) _ from ⟨HD.out.cell 0, HD.out.cell 1, HD.out.cell 2⟩)
    refine Turns.next 3 rfl (by kernel_rfl) (by rfl) (fun K hK => ?_)
    go_simp
    go_at_call 44
    refine (HN1.out _).mono ?_
    rintro e w3 ⟨rfl, hb⟩
    replace HR := Lib.hid (HR.out.next hb)
    replace HD := Lib.hid (HD.out.below hb HD.out.lt)
    try replace HU := Lib.hid (HU.out.below hb HU.out.lt)
    clear hb
    refine hK.out _ _ (show (fun (w' : World) => w'.cell? ⟨bd, 0, none⟩ = some (.int .i64 y) ∧ w'.cell? ⟨bd, 1, none⟩ = some (.int .i64 m) ∧ w'.cell? ⟨bd, 2, none⟩ = some (.int .i64 d)) _ from ⟨HD.out.cell 0, HD.out.cell 1, HD.out.cell 2⟩) ?_
    clear hK K hS
    have hS := (show (fun (w' : World) => w'.cell? ⟨bd, 0, none⟩ = some (.int .i64 y) ∧ w'.cell? ⟨bd, 1, none⟩ = some (.int .i64 m) ∧ w'.cell? ⟨bd, 2, none⟩ = some (.int .i64 d)) _ from ⟨HD.out.cell 0, HD.out.cell 1, HD.out.cell 2⟩)
    refine Turns.next 6 rfl (by kernel_rfl) (by rfl) (fun K hK => ?_)
    go_simp
    go_at_call 44
    refine (HN2.out _).mono ?_
    rintro e w6 ⟨rfl, hb⟩
    replace HR := Lib.hid (HR.out.next hb)
    replace HD := Lib.hid (HD.out.below hb HD.out.lt)
    try replace HU := Lib.hid (HU.out.below hb HU.out.lt)
    clear hb
    refine hK.out _ _ (show (fun (w' : World) => w'.cell? ⟨bd, 0, none⟩ = some (.int .i64 y) ∧ w'.cell? ⟨bd, 1, none⟩ = some (.int .i64 m) ∧ w'.cell? ⟨bd, 2, none⟩ = some (.int .i64 d)) _ from ⟨HD.out.cell 0, HD.out.cell 1, HD.out.cell 2⟩) ?_
    clear hK K hS
    have hS := (show (fun (w' : World) => w'.cell? ⟨bd, 0, none⟩ = some (.int .i64 y) ∧ w'.cell? ⟨bd, 1, none⟩ = some (.int .i64 m) ∧ w'.cell? ⟨bd, 2, none⟩ = some (.int .i64 d)) _ from ⟨HD.out.cell 0, HD.out.cell 1, HD.out.cell 2⟩)
    refine Turns.next 9 rfl (by kernel_rfl) (by rfl) (fun K hK => ?_)
    go_simp
    go_at_call 44
    refine (HN3.out _).mono ?_
    rintro e w9 ⟨rfl, hb⟩
    replace HR := Lib.hid (HR.out.next hb)
    replace HD := Lib.hid (HD.out.below hb HD.out.lt)
    try replace HU := Lib.hid (HU.out.below hb HU.out.lt)
    clear hb
    refine hK.out _ _ (show (fun (w' : World) => w'.cell? ⟨bd, 0, none⟩ = some (.int .i64 y) ∧ w'.cell? ⟨bd, 1, none⟩ = some (.int .i64 m) ∧ w'.cell? ⟨bd, 2, none⟩ = some (.int .i64 d)) _ from ⟨HD.out.cell 0, HD.out.cell 1, HD.out.cell 2⟩) ?_
    clear hK K hS
    have hS := (show (fun (w' : World) => w'.cell? ⟨bd, 0, none⟩ = some (.int .i64 y) ∧ w'.cell? ⟨bd, 1, none⟩ = some (.int .i64 m) ∧ w'.cell? ⟨bd, 2, none⟩ = some (.int .i64 d)) _ from ⟨HD.out.cell 0, HD.out.cell 1, HD.out.cell 2⟩)
    refine Turns.take hS 10 _ rfl (by kernel_rfl) (by kernel_rfl) (by kernel_rfl) (by kernel_rfl) (fun _ _ _ h => h) (by rfl) (fun w' hS' => by (try dsimp only at hS'); go_split_ands; go_simp; (try with_reducible rfl)) ?_
    simp only [Act.put, List.getElem_toArray, List.getElem_cons_succ, List.getElem_cons_zero, List.setIfInBounds_toArray, List.set_cons_zero, List.set_cons_succ]
    refine Turns.next 12 rfl (by kernel_rfl) (by rfl) (fun K hK => ?_)
    simp only [List.getElem_toArray, List.getElem_cons_succ, List.getElem_cons_zero]
    refine wp_store_at 28 (.tmp 6) (.tmp 47) rfl xe 0 [.int .i64 y, .int .i64 m, .int .i64 d, .int .i64 H, .int .i64 M, .int .i64 S] ?hs ?hx 28 [.int .i64 0, .int .i64 0, .int .i64 0, .int .i64 0, .int .i64 0, .int .i64 0] HU.out (by kernel_rfl) (Nat.le_refl 6) (one_ints6 _ _ _ _ _ _) ?_
    case hs => first | rfl | simp [Act.eval, Act.put]
    case hx => first | rfl | simp [Act.eval, Act.put]
    rw [hsp]
    replace HR := Lib.hid (HR.out.aside HLT.out.1 [.int .i64 y, .int .i64 m, .int .i64 d, .int .i64 H, .int .i64 M, .int .i64 S].toArray)
    replace HD := Lib.hid (HD.out.grown (grown_row _ xe [.int .i64 y, .int .i64 m, .int .i64 d, .int .i64 H, .int .i64 M, .int .i64 S].toArray) (fun e => absurd (Option.some.inj e) (by have := HLT.out; omega)))
    replace HU := Lib.hid (HU.out.row [.int .i64 y, .int .i64 m, .int .i64 d, .int .i64 H, .int .i64 M, .int .i64 S].toArray)
    refine hK.out _ _ (show (fun (w' : World) => w'.cell? ⟨bd, 0, none⟩ = some (.int .i64 y) ∧ w'.cell? ⟨bd, 1, none⟩ = some (.int .i64 m) ∧ w'.cell? ⟨bd, 2, none⟩ = some (.int .i64 d)) _ from ⟨HD.out.cell 0, HD.out.cell 1, HD.out.cell 2⟩) ?_
    clear hK K hS
    have hS := (show (fun (w' : World) => w'.cell? ⟨bd, 0, none⟩ = some (.int .i64 y) ∧ w'.cell? ⟨bd, 1, none⟩ = some (.int .i64 m) ∧ w'.cell? ⟨bd, 2, none⟩ = some (.int .i64 d)) _ from ⟨HD.out.cell 0, HD.out.cell 1, HD.out.cell 2⟩)
    refine Turns.rest (late_done (by kernel_rfl)) ?_
    refine any_tail 13 (by rfl) (by kernel_rfl) ?_
    simp only [List.drop_succ_cons, List.drop_zero]
    clear hS
    have u0 := HU.out.cell 0
    have u1 := HU.out.cell 1
    have u2 := HU.out.cell 2
    have u3 := HU.out.cell 3
    have u4 := HU.out.cell 4
    have u5 := HU.out.cell 5
    obtain ⟨r0, r1, r2, r3, r4, r5, g0, g1, g2, g3, g4, g5⟩ := HR.out.six
    clear HN1 HN2 HN3 HP HD hne
    cases ok with
    | false =>
      go_wp2
      refine bodyPost_ret (results_row_tmp rfl _ _ w.heap.size 28 [.int .i64 0, .int .i64 0, .int .i64 0, .int .i64 0, .int .i64 0, .int .i64 0] _ _ rfl (HR.out.fill _ _ _ _ _ _).holds Tryd.underlying28 rfl rutc_size rfl) rfl ?_
      exact ⟨.inr ⟨rfl, rfl⟩, (HR.out.fill _ _ _ _ _ _).below⟩
    | true =>
      clear r0 r1 r2 r3 r4 r5 g0 g1 g2 g3 g4 g5
      cases g with
      | false =>
        go_wp2_with (go_at_call 21; refine (rugood_any y m d H M S _).mono ?_; rintro e w9 ⟨rfl, hb9⟩; rw [HG.out]; replace HR := Lib.hid (HR.out.next hb9); replace HU := Lib.hid (HU.out.below hb9 HU.out.lt); clear u0 u1 u2 u3 u4 u5 hb9; obtain ⟨r0, r1, r2, r3, r4, r5, g0, g1, g2, g3, g4, g5⟩ := HR.out.six; have u0 := HU.out.cell 0; have u1 := HU.out.cell 1; have u2 := HU.out.cell 2; have u3 := HU.out.cell 3; have u4 := HU.out.cell 4; have u5 := HU.out.cell 5)
        refine bodyPost_ret (results_row_tmp rfl _ _ w.heap.size 28 [.int .i64 0, .int .i64 0, .int .i64 0, .int .i64 0, .int .i64 0, .int .i64 0] _ _ rfl (HR.out.fill _ _ _ _ _ _).holds Tryd.underlying28 rfl rutc_size rfl) rfl ?_
        exact ⟨.inr ⟨rfl, rfl⟩, (HR.out.fill _ _ _ _ _ _).below⟩
      | true =>
        go_wp2_with (go_at_call 21; refine (rugood_any y m d H M S _).mono ?_; rintro e w9 ⟨rfl, hb9⟩; rw [HG.out]; replace HR := Lib.hid (HR.out.next hb9); replace HU := Lib.hid (HU.out.below hb9 HU.out.lt); clear u0 u1 u2 u3 u4 u5 hb9; obtain ⟨r0, r1, r2, r3, r4, r5, g0, g1, g2, g3, g4, g5⟩ := HR.out.six; have u0 := HU.out.cell 0; have u1 := HU.out.cell 1; have u2 := HU.out.cell 2; have u3 := HU.out.cell 3; have u4 := HU.out.cell 4; have u5 := HU.out.cell 5)
        refine bodyPost_ret (results_row_tmp rfl _ _ w.heap.size 28 [.int .i64 y, .int .i64 m, .int .i64 d, .int .i64 H, .int .i64 M, .int .i64 S] _ _ rfl (HR.out.fill _ _ _ _ _ _).holds Tryd.underlying28 rfl rutc_size rfl) rfl ?_
        exact ⟨.inl ⟨rfl, rfl⟩, (HR.out.fill _ _ _ _ _ _).below⟩
theorem ruparse_yes (s : ByteArray) (y m d H M S : Int) (w : World) (h : IsUtc s y m d H M S) :
    Calls Tryd.prog 24 #[.string s] w fun e w' => e = .returned (.tuple #[.agg #[.int .i64 y, .int .i64 m, .int .i64 d, .int .i64 H, .int .i64 M, .int .i64 S], .bool true]) ∧ Below w.heap.size w w' := by
  have k := ruparse_core s w y m d true true h.size h.b10 h.b13 h.b16 h.b19 (fun W => rparse_yes _ y m d W h.date) (by rw [h.hE, h.mE, h.sE]; exact goodU_yes h.date.can h.can)
  rw [h.hE, h.mE, h.sE] at k
  refine k.mono ?_
  rintro e w' ⟨⟨_, he⟩ | ⟨hn, _⟩, hb⟩
  · exact ⟨he, hb⟩
  · cases hn
theorem ruparse_no (s : ByteArray) (w : World) (h : ¬ ∃ y m d H M S, IsUtc s y m d H M S) :
    Calls Tryd.prog 24 #[.string s] w fun e w' => e = .returned (.tuple #[.agg #[.int .i64 0, .int .i64 0, .int .i64 0, .int .i64 0, .int .i64 0, .int .i64 0], .bool false]) ∧ Below w.heap.size w w' := by
  by_cases hb : s.size = 20 ∧ byt s 10 = 84 ∧ byt s 13 = 58 ∧ byt s 16 = 58 ∧ byt s 19 = 90
  · obtain ⟨hs, h10, h13, h16, h19⟩ := hb
    by_cases k : ∃ y m d, IsDate (s.extract 0 10) y m d
    · obtain ⟨y, m, d, k⟩ := k
      have hng : ¬ (CanD y m d ∧ CanT (numD s 11 2) (numD s 14 2) (numD s 17 2)) := fun hg => h ⟨y, m, d, _, _, _, hs, k, h10, h13, h16, h19, rfl, rfl, rfl, hg.2⟩
      refine (ruparse_core s w y m d true false hs h10 h13 h16 h19 (fun W => rparse_yes _ y m d W k) (goodU_no hng)).mono ?_
      rintro e w' ⟨⟨hn, _⟩ | ⟨_, he⟩, hb⟩
      · cases hn
      · exact ⟨he, hb⟩
    · refine (ruparse_core s w 0 0 0 false _ hs h10 h13 h16 h19 (fun W => rparse_no _ W (by rw [size_cut s 0 10 (by omega) (by omega)]; unfold maxLen; omega) k) rfl).mono ?_
      rintro e w' ⟨⟨hn, _⟩ | ⟨_, he⟩, hb⟩
      · cases hn
      · exact ⟨he, hb⟩
  · exact ruparse_bad s w hb
end Go.Proofs.YtcknllkbeadmlaaDoor
