/- Package utc: Parse. -/
import Derived.Test.YtcknllkbeadmlaaDoorUtC
namespace Go.Proofs.YtcknllkbeadmlaaDoor
open Go.RowKit
set_option linter.unusedSimpArgs false
set_option linter.unusedVariables false

theorem lit_ne {X Y : List UInt8} (h : ¬ X = Y) : (X == Y) = false ∧ (X != Y) = true := by
  have : (X == Y) = false := beq_eq_false_iff_ne.2 h
  exact ⟨this, by show (!(X == Y)) = true; rw [this]; rfl⟩
theorem lit_eq (X : List UInt8) : (X == X) = true ∧ (X != X) = false := by
  have : (X == X) = true := beq_self_eq_true _
  exact ⟨this, by show (!(X == X)) = false; rw [this]; rfl⟩
theorem list_inj {a b : ByteArray} (h : a.toList = b.toList) : a = b := by
  rw [Lib.toList_data, Lib.toList_data] at h
  exact ByteArray.ext (Array.toList_inj.1 h)
theorem utc_size : (Tryd.prog.info? 35).map (·.size) = some 6 := by kernel_rfl
theorem uparse_short (s : ByteArray) (w : World) (h : ¬ s.size = 20) :
    Calls Tryd.prog 23 #[.string s] w fun e w' => e = .returned (.tuple #[.agg #[.int .i64 0, .int .i64 0, .int .i64 0, .int .i64 0, .int .i64 0, .int .i64 0], .bool false]) ∧ Below w.heap.size w w' := by
  have HR := Lib.hid (Box.start w 35 #[.int .i64 0, .int .i64 0, .int .i64 0, .int .i64 0, .int .i64 0, .int .i64 0])
  obtain ⟨r0, r1, r2, r3, r4, r5, g0, g1, g2, g3, g4, g5⟩ := HR.out.six
  have hne : ¬ (s.size : Int) = 20 := by omega
  have hnb := beq_no hne
  go_enter Tryd.func23, Tryd.ntmps23
  go_wp2
  refine bodyPost_ret (results_row_tmp rfl _ _ w.heap.size 35 [.int .i64 0, .int .i64 0, .int .i64 0, .int .i64 0, .int .i64 0, .int .i64 0] _ _ rfl HR.out.holds Tryd.underlying35 rfl utc_size rfl) rfl ?_
  exact ⟨rfl, HR.out.below⟩
set_option maxRecDepth 100000 in
set_option maxHeartbeats 4000000 in
theorem uparse_core (s TX : ByteArray) (w : World) (y m d : Int) (ok : Bool) (hs : s.size = 20) (htx : TX.size ≤ 20)
    (hp : ∀ W, Calls Tryd.prog 41 #[.string (s.extract 0 10)] W fun e w' => e = .returned (.tuple #[.agg #[.int .i64 y, .int .i64 m, .int .i64 d], .bool ok]) ∧ Below W.heap.size W w')
    (ht : ∀ W, Below w.heap.size w W → Calls Tryd.prog 19 #[.agg #[.int .i64 y, .int .i64 m, .int .i64 d, .int .i64 (numW s 11), .int .i64 (numW s 14), .int .i64 (numW s 17)]] W fun e w' => e = .returned (.string TX) ∧ Below W.heap.size W w') :
    Calls Tryd.prog 23 #[.string s] w fun e w' => ((TX = s ∧ e = .returned (.tuple #[.agg #[.int .i64 y, .int .i64 m, .int .i64 d, .int .i64 (numW s 11), .int .i64 (numW s 14), .int .i64 (numW s 17)], .bool true])) ∨ (¬ TX = s ∧ e = .returned (.tuple #[.agg #[.int .i64 0, .int .i64 0, .int .i64 0, .int .i64 0, .int .i64 0, .int .i64 0], .bool false]))) ∧ Below w.heap.size w w' := by
  have HR := Lib.hid (Box.start w 35 #[.int .i64 0, .int .i64 0, .int .i64 0, .int .i64 0, .int .i64 0, .int .i64 0])
  have hne : (s.size : Int) = 20 := by omega
  have HP := Lib.hid hp
  have HT := Lib.hid ht
  have HN1 := Lib.hid (fun W => unum_any s 11 11 W rfl hs (by decide))
  have HN2 := Lib.hid (fun W => unum_any s 14 14 W rfl hs (by decide))
  have HN3 := Lib.hid (fun W => unum_any s 17 17 W rfl hs (by decide))
  obtain ⟨H, hH⟩ : ∃ H, numW s 11 = H := ⟨_, rfl⟩
  obtain ⟨M, hM⟩ : ∃ H, numW s 14 = H := ⟨_, rfl⟩
  obtain ⟨S, hS⟩ : ∃ H, numW s 17 = H := ⟨_, rfl⟩
  simp only [hH, hM, hS] at HT HN1 HN2 HN3 ⊢
  have hsp : splice ([.int .i64 0, .int .i64 0, .int .i64 0, .int .i64 0, .int .i64 0, .int .i64 0] : List Value) 0 ([.int .i64 y, .int .i64 m, .int .i64 d, .int .i64 H, .int .i64 M, .int .i64 S] : List Value) = [.int .i64 y, .int .i64 m, .int .i64 d, .int .i64 H, .int .i64 M, .int .i64 S] := splice_all _ _ rfl
  clear hp ht hH hM hS hs htx
  go_enter Tryd.func23, Tryd.ntmps23
  go_upto_region 4 with (go_at_call 41; refine (HP.out _).mono ?_; rintro e w1 ⟨rfl, hb1⟩)
  replace HR := Lib.hid (HR.out.next hb1)
  have HD0 := Lib.hid (Box.start w1 33 #[.int .i64 y, .int .i64 m, .int .i64 d])
  replace HR := Lib.hid (HR.out.next HD0.out.below)
  have HD := Lib.hid HD0.out.holds
  obtain ⟨bd, hbd⟩ : ∃ bd, w1.heap.size = bd := ⟨_, rfl⟩
  simp only [hbd] at HD ⊢
  obtain ⟨V1, hV1⟩ : ∃ V, V = (w1.alloc (.cells #[.int .i64 y, .int .i64 m, .int .i64 d] 33)) := ⟨_, rfl⟩
  rw [← hV1] at HR HD ⊢
  replace HR := Lib.hid (show Box w 35 #[.int .i64 0, .int .i64 0, .int .i64 0, .int .i64 0, .int .i64 0, .int .i64 0] V1.drew from HR.out.drew)
  replace HD := Lib.hid (show Holds V1.drew bd 33 #[.int .i64 y, .int .i64 m, .int .i64 d] from HD.out)
  clear hbd hV1 HD0 hb1 hne
  refine region_turns (fun (w' : World) => w'.cell? ⟨bd, 0, none⟩ = some (.int .i64 y) ∧ w'.cell? ⟨bd, 1, none⟩ = some (.int .i64 m) ∧ w'.cell? ⟨bd, 2, none⟩ = some (.int .i64 d)) (fun j => decide (10 ≤ j)) (by kernel_rfl) (⟨HD.out.cell 0, HD.out.cell 1, HD.out.cell 2⟩) (fun hS => ?_)
  refine Turns.take hS 0 _ rfl (by kernel_rfl) (by kernel_rfl) (by kernel_rfl) (by kernel_rfl) (fun _ _ _ h => h) (by rfl) (fun w' hS' => by (try dsimp only at hS'); go_split_ands; go_simp; (try with_reducible rfl)) ?_
  simp only [Act.put, List.getElem_toArray, List.getElem_cons_succ, List.getElem_cons_zero, List.setIfInBounds_toArray, List.set_cons_zero, List.set_cons_succ]
  refine Turns.take hS 1 _ rfl (by kernel_rfl) (by kernel_rfl) (by kernel_rfl) (by kernel_rfl) (fun _ _ _ h => h) (by rfl) (fun w' hS' => by (try dsimp only at hS'); go_split_ands; go_simp; (try with_reducible rfl)) ?_
  simp only [Act.put, List.getElem_toArray, List.getElem_cons_succ, List.getElem_cons_zero, List.setIfInBounds_toArray, List.set_cons_zero, List.set_cons_succ]
  refine Turns.take hS 3 _ rfl (by kernel_rfl) (by kernel_rfl) (by kernel_rfl) (by kernel_rfl) (fun _ _ _ h => h) (by rfl) (fun w' hS' => by (try dsimp only at hS'); go_split_ands; go_simp; (try with_reducible rfl)) ?_
  simp only [Act.put, List.getElem_toArray, List.getElem_cons_succ, List.getElem_cons_zero, List.setIfInBounds_toArray, List.set_cons_zero, List.set_cons_succ]
  refine Turns.take hS 5 _ rfl (by kernel_rfl) (by kernel_rfl) (by kernel_rfl) (by kernel_rfl) (fun _ _ _ h => h) (by rfl) (fun w' hS' => by (try dsimp only at hS'); go_split_ands; go_simp; (try with_reducible rfl)) ?_
  simp only [Act.put, List.getElem_toArray, List.getElem_cons_succ, List.getElem_cons_zero, List.setIfInBounds_toArray, List.set_cons_zero, List.set_cons_succ]
  refine Turns.either 2 8 rfl rfl (by kernel_rfl) (by rfl) (by rfl) (fun K hK => ?_) (fun K hK => ?_)
  · go_simp
    go_at_call 42
    refine (HN1.out _).mono ?_
    rintro e w2 ⟨rfl, hb⟩
    replace HR := Lib.hid (HR.out.next hb)
    replace HD := Lib.hid (HD.out.below hb HD.out.lt)
    try replace HU := Lib.hid (HU.out.below hb HU.out.lt)
    clear hb
    refine hK.out _ _ (show (fun (w' : World) => w'.cell? ⟨bd, 0, none⟩ = some (.int .i64 y) ∧ w'.cell? ⟨bd, 1, none⟩ = some (.int .i64 m) ∧ w'.cell? ⟨bd, 2, none⟩ = some (.int .i64 d)) _ from ⟨HD.out.cell 0, HD.out.cell 1, HD.out.cell 2⟩) ?_
    clear hK K hS
    have hS := (show (fun (w' : World) => w'.cell? ⟨bd, 0, none⟩ = some (.int .i64 y) ∧ w'.cell? ⟨bd, 1, none⟩ = some (.int .i64 m) ∧ w'.cell? ⟨bd, 2, none⟩ = some (.int .i64 d)) _ from ⟨HD.out.cell 0, HD.out.cell 1, HD.out.cell 2⟩)
    refine Turns.either 4 8 rfl rfl (by kernel_rfl) (by rfl) (by rfl) (fun K hK => ?_) (fun K hK => ?_)
    · go_simp
      go_at_call 42
      refine (HN2.out _).mono ?_
      rintro e w4 ⟨rfl, hb⟩
      replace HR := Lib.hid (HR.out.next hb)
      replace HD := Lib.hid (HD.out.below hb HD.out.lt)
      try replace HU := Lib.hid (HU.out.below hb HU.out.lt)
      clear hb
      refine hK.out _ _ (show (fun (w' : World) => w'.cell? ⟨bd, 0, none⟩ = some (.int .i64 y) ∧ w'.cell? ⟨bd, 1, none⟩ = some (.int .i64 m) ∧ w'.cell? ⟨bd, 2, none⟩ = some (.int .i64 d)) _ from ⟨HD.out.cell 0, HD.out.cell 1, HD.out.cell 2⟩) ?_
      clear hK K hS
      have hS := (show (fun (w' : World) => w'.cell? ⟨bd, 0, none⟩ = some (.int .i64 y) ∧ w'.cell? ⟨bd, 1, none⟩ = some (.int .i64 m) ∧ w'.cell? ⟨bd, 2, none⟩ = some (.int .i64 d)) _ from ⟨HD.out.cell 0, HD.out.cell 1, HD.out.cell 2⟩)
      refine Turns.either 6 8 rfl rfl (by kernel_rfl) (by rfl) (by rfl) (fun K hK => ?_) (fun K hK => ?_)
      · go_simp
        go_at_call 42
        refine (HN3.out _).mono ?_
        rintro e w6 ⟨rfl, hb⟩
        replace HR := Lib.hid (HR.out.next hb)
        replace HD := Lib.hid (HD.out.below hb HD.out.lt)
        try replace HU := Lib.hid (HU.out.below hb HU.out.lt)
        clear hb
        refine hK.out _ _ (show (fun (w' : World) => w'.cell? ⟨bd, 0, none⟩ = some (.int .i64 y) ∧ w'.cell? ⟨bd, 1, none⟩ = some (.int .i64 m) ∧ w'.cell? ⟨bd, 2, none⟩ = some (.int .i64 d)) _ from ⟨HD.out.cell 0, HD.out.cell 1, HD.out.cell 2⟩) ?_
        clear hK K hS
        have hS := (show (fun (w' : World) => w'.cell? ⟨bd, 0, none⟩ = some (.int .i64 y) ∧ w'.cell? ⟨bd, 1, none⟩ = some (.int .i64 m) ∧ w'.cell? ⟨bd, 2, none⟩ = some (.int .i64 d)) _ from ⟨HD.out.cell 0, HD.out.cell 1, HD.out.cell 2⟩)
        refine Turns.take hS 7 _ rfl (by kernel_rfl) (by kernel_rfl) (by kernel_rfl) (by kernel_rfl) (fun _ _ _ h => h) (by rfl) (fun w' hS' => by (try dsimp only at hS'); go_split_ands; go_simp; (try with_reducible rfl)) ?_
        simp only [Act.put, List.getElem_toArray, List.getElem_cons_succ, List.getElem_cons_zero, List.setIfInBounds_toArray, List.set_cons_zero, List.set_cons_succ]
        refine Turns.next 8 rfl (by kernel_rfl) (by rfl) (fun K hK => ?_)
        go_simp
        have hlt : w.heap.size < w6.heap.size ∧ bd < w6.heap.size := ⟨HR.out.lt, HD.out.lt⟩
        have he := Holds.new w6 35 #[.int .i64 0, .int .i64 0, .int .i64 0, .int .i64 0, .int .i64 0, .int .i64 0]
        have hbl : Below w6.heap.size w6 (w6.alloc (.cells #[.int .i64 0, .int .i64 0, .int .i64 0, .int .i64 0, .int .i64 0, .int .i64 0] 35)) := below_alloc _ _
        replace HR := Lib.hid (HR.out.next hbl)
        replace HD := Lib.hid (HD.out.below hbl HD.out.lt)
        have HU : Hid (Holds (w6.alloc (.cells #[.int .i64 0, .int .i64 0, .int .i64 0, .int .i64 0, .int .i64 0, .int .i64 0] 35)) w6.heap.size 35 #[.int .i64 0, .int .i64 0, .int .i64 0, .int .i64 0, .int .i64 0, .int .i64 0]) := Lib.hid he
        obtain ⟨xe, hxe⟩ : ∃ xe, w6.heap.size = xe := ⟨_, rfl⟩
        rw [hxe] at hlt HU
        simp only [hxe]
        obtain ⟨U, hU⟩ : ∃ U, U = (w6.alloc (.cells #[.int .i64 0, .int .i64 0, .int .i64 0, .int .i64 0, .int .i64 0, .int .i64 0] 35)) := ⟨_, rfl⟩
        rw [← hU] at HR HD HU ⊢
        have HLT := Lib.hid hlt
        clear hxe hU hlt he hbl
        refine hK.out _ _ (show (fun (w' : World) => w'.cell? ⟨bd, 0, none⟩ = some (.int .i64 y) ∧ w'.cell? ⟨bd, 1, none⟩ = some (.int .i64 m) ∧ w'.cell? ⟨bd, 2, none⟩ = some (.int .i64 d)) _ from ⟨HD.out.cell 0, HD.out.cell 1, HD.out.cell 2⟩) ?_
        clear hK K hS
        have hS := (show (fun (w' : World) => w'.cell? ⟨bd, 0, none⟩ = some (.int .i64 y) ∧ w'.cell? ⟨bd, 1, none⟩ = some (.int .i64 m) ∧ w'.cell? ⟨bd, 2, none⟩ = some (.int .i64 d)) _ from ⟨HD.out.cell 0, HD.out.cell 1, HD.out.cell 2⟩)
        refine Turns.next 9 rfl (by kernel_rfl) (by rfl) (fun K hK => ?_)
        simp only [List.getElem_toArray, List.getElem_cons_succ, List.getElem_cons_zero]
        refine wp_store_at 35 (.tmp 6) (.tmp 24) rfl xe 0 [.int .i64 y, .int .i64 m, .int .i64 d, .int .i64 H, .int .i64 M, .int .i64 S] ?hs ?hx 35 [.int .i64 0, .int .i64 0, .int .i64 0, .int .i64 0, .int .i64 0, .int .i64 0] HU.out (by kernel_rfl) (Nat.le_refl 6) (one_ints6 _ _ _ _ _ _) ?_
        case hs => first | rfl | simp [Act.eval, Act.put]
        case hx => first | rfl | simp [Act.eval, Act.put]
        rw [hsp]
        replace HR := Lib.hid (HR.out.aside HLT.out.1 [.int .i64 y, .int .i64 m, .int .i64 d, .int .i64 H, .int .i64 M, .int .i64 S].toArray)
        replace HD := Lib.hid (HD.out.grown (grown_row _ xe [.int .i64 y, .int .i64 m, .int .i64 d, .int .i64 H, .int .i64 M, .int .i64 S].toArray) (fun e => absurd (Option.some.inj e) (by have := HLT.out; omega)))
        replace HU := Lib.hid (HU.out.row [.int .i64 y, .int .i64 m, .int .i64 d, .int .i64 H, .int .i64 M, .int .i64 S].toArray)
        refine hK.out _ _ (show (fun (w' : World) => w'.cell? ⟨bd, 0, none⟩ = some (.int .i64 y) ∧ w'.cell? ⟨bd, 1, none⟩ = some (.int .i64 m) ∧ w'.cell? ⟨bd, 2, none⟩ = some (.int .i64 d)) _ from ⟨HD.out.cell 0, HD.out.cell 1, HD.out.cell 2⟩) ?_
        clear hK K hS
        have hS := (show (fun (w' : World) => w'.cell? ⟨bd, 0, none⟩ = some (.int .i64 y) ∧ w'.cell? ⟨bd, 1, none⟩ = some (.int .i64 m) ∧ w'.cell? ⟨bd, 2, none⟩ = some (.int .i64 d)) _ from ⟨HD.out.cell 0, HD.out.cell 1, HD.out.cell 2⟩)
        refine Turns.rest (late_done (by kernel_rfl)) ?_
        refine any_tail 10 (by rfl) (by kernel_rfl) ?_
        simp only [List.drop_succ_cons, List.drop_zero]
        clear hS
        have u0 := HU.out.cell 0
        have u1 := HU.out.cell 1
        have u2 := HU.out.cell 2
        have u3 := HU.out.cell 3
        have u4 := HU.out.cell 4
        have u5 := HU.out.cell 5
        clear HN1 HN2 HN3 HP HD
        by_cases hts : TX = s
        · have HE := Lib.hid hts
          obtain ⟨t1, t2⟩ : (TX.toList == s.toList) = true ∧ (TX.toList != s.toList) = false := by rw [hts]; exact lit_eq _
          clear hts
          go_wp2_with (go_at_call 19; refine (HT.out _ HR.out.below).mono ?_; rintro e w9 ⟨rfl, hb9⟩; replace HR := Lib.hid (HR.out.next hb9); replace HU := Lib.hid (HU.out.below hb9 HU.out.lt); clear u0 u1 u2 u3 u4 u5 hb9; obtain ⟨r0, r1, r2, r3, r4, r5, g0, g1, g2, g3, g4, g5⟩ := HR.out.six; have u0 := HU.out.cell 0; have u1 := HU.out.cell 1; have u2 := HU.out.cell 2; have u3 := HU.out.cell 3; have u4 := HU.out.cell 4; have u5 := HU.out.cell 5)
          refine bodyPost_ret (results_row_tmp rfl _ _ w.heap.size 35 [.int .i64 y, .int .i64 m, .int .i64 d, .int .i64 H, .int .i64 M, .int .i64 S] _ _ rfl (HR.out.fill _ _ _ _ _ _).holds Tryd.underlying35 rfl utc_size rfl) rfl ?_
          exact ⟨.inl ⟨HE.out, rfl⟩, (HR.out.fill _ _ _ _ _ _).below⟩
        · have HE := Lib.hid hts
          obtain ⟨t1, t2⟩ : (TX.toList == s.toList) = false ∧ (TX.toList != s.toList) = true := lit_ne (fun e => hts (list_inj e))
          clear hts
          go_wp2_with (go_at_call 19; refine (HT.out _ HR.out.below).mono ?_; rintro e w9 ⟨rfl, hb9⟩; replace HR := Lib.hid (HR.out.next hb9); clear u0 u1 u2 u3 u4 u5 hb9; obtain ⟨r0, r1, r2, r3, r4, r5, g0, g1, g2, g3, g4, g5⟩ := HR.out.six)
          refine bodyPost_ret (results_row_tmp rfl _ _ w.heap.size 35 [.int .i64 0, .int .i64 0, .int .i64 0, .int .i64 0, .int .i64 0, .int .i64 0] _ _ rfl (HR.out.fill _ _ _ _ _ _).holds Tryd.underlying35 rfl utc_size rfl) rfl ?_
          exact ⟨.inr ⟨HE.out, rfl⟩, (HR.out.fill _ _ _ _ _ _).below⟩
      · go_simp
        have hlt : w.heap.size < w4.heap.size ∧ bd < w4.heap.size := ⟨HR.out.lt, HD.out.lt⟩
        have he := Holds.new w4 35 #[.int .i64 0, .int .i64 0, .int .i64 0, .int .i64 0, .int .i64 0, .int .i64 0]
        have hbl : Below w4.heap.size w4 (w4.alloc (.cells #[.int .i64 0, .int .i64 0, .int .i64 0, .int .i64 0, .int .i64 0, .int .i64 0] 35)) := below_alloc _ _
        replace HR := Lib.hid (HR.out.next hbl)
        replace HD := Lib.hid (HD.out.below hbl HD.out.lt)
        have HU : Hid (Holds (w4.alloc (.cells #[.int .i64 0, .int .i64 0, .int .i64 0, .int .i64 0, .int .i64 0, .int .i64 0] 35)) w4.heap.size 35 #[.int .i64 0, .int .i64 0, .int .i64 0, .int .i64 0, .int .i64 0, .int .i64 0]) := Lib.hid he
        obtain ⟨xe, hxe⟩ : ∃ xe, w4.heap.size = xe := ⟨_, rfl⟩
        rw [hxe] at hlt HU
        simp only [hxe]
        obtain ⟨U, hU⟩ : ∃ U, U = (w4.alloc (.cells #[.int .i64 0, .int .i64 0, .int .i64 0, .int .i64 0, .int .i64 0, .int .i64 0] 35)) := ⟨_, rfl⟩
        rw [← hU] at HR HD HU ⊢
        have HLT := Lib.hid hlt
        clear hxe hU hlt he hbl
        refine hK.out _ _ (show (fun (w' : World) => w'.cell? ⟨bd, 0, none⟩ = some (.int .i64 y) ∧ w'.cell? ⟨bd, 1, none⟩ = some (.int .i64 m) ∧ w'.cell? ⟨bd, 2, none⟩ = some (.int .i64 d)) _ from ⟨HD.out.cell 0, HD.out.cell 1, HD.out.cell 2⟩) ?_
        clear hK K hS
        have hS := (show (fun (w' : World) => w'.cell? ⟨bd, 0, none⟩ = some (.int .i64 y) ∧ w'.cell? ⟨bd, 1, none⟩ = some (.int .i64 m) ∧ w'.cell? ⟨bd, 2, none⟩ = some (.int .i64 d)) _ from ⟨HD.out.cell 0, HD.out.cell 1, HD.out.cell 2⟩)
        refine Turns.next 6 rfl (by kernel_rfl) (by rfl) (fun K hK => ?_)
        go_simp
        go_at_call 42
        refine (HN3.out _).mono ?_
        rintro e w6 ⟨rfl, hb⟩
        replace HR := Lib.hid (HR.out.next hb)
        replace HD := Lib.hid (HD.out.below hb HD.out.lt)
        try replace HU := Lib.hid (HU.out.below hb HU.out.lt)
        clear hb
        refine hK.out _ _ (show (fun (w' : World) => w'.cell? ⟨bd, 0, none⟩ = some (.int .i64 y) ∧ w'.cell? ⟨bd, 1, none⟩ = some (.int .i64 m) ∧ w'.cell? ⟨bd, 2, none⟩ = some (.int .i64 d)) _ from ⟨HD.out.cell 0, HD.out.cell 1, HD.out.cell 2⟩) ?_
        clear hK K hS
        have hS := (show (fun (w' : World) => w'.cell? ⟨bd, 0, none⟩ = some (.int .i64 y) ∧ w'.cell? ⟨bd, 1, none⟩ = some (.int .i64 m) ∧ w'.cell? ⟨bd, 2, none⟩ = some (.int .i64 d)) _ from ⟨HD.out.cell 0, HD.out.cell 1, HD.out.cell 2⟩)
        refine Turns.take hS 7 _ rfl (by kernel_rfl) (by kernel_rfl) (by kernel_rfl) (by kernel_rfl) (fun _ _ _ h => h) (by rfl) (fun w' hS' => by (try dsimp only at hS'); go_split_ands; go_simp; (try with_reducible rfl)) ?_
        simp only [Act.put, List.getElem_toArray, List.getElem_cons_succ, List.getElem_cons_zero, List.setIfInBounds_toArray, List.set_cons_zero, List.set_cons_succ]
        refine Turns.next 9 rfl (by kernel_rfl) (by rfl) (fun K hK => ?_)
        simp only [List.getElem_toArray, List.getElem_cons_succ, List.getElem_cons_zero]
        refine wp_store_at 35 (.tmp 6) (.tmp 24) rfl xe 0 [.int .i64 y, .int .i64 m, .int .i64 d, .int .i64 H, .int .i64 M, .int .i64 S] ?hs ?hx 35 [.int .i64 0, .int .i64 0, .int .i64 0, .int .i64 0, .int .i64 0, .int .i64 0] HU.out (by kernel_rfl) (Nat.le_refl 6) (one_ints6 _ _ _ _ _ _) ?_
        case hs => first | rfl | simp [Act.eval, Act.put]
        case hx => first | rfl | simp [Act.eval, Act.put]
        rw [hsp]
        replace HR := Lib.hid (HR.out.aside HLT.out.1 [.int .i64 y, .int .i64 m, .int .i64 d, .int .i64 H, .int .i64 M, .int .i64 S].toArray)
        replace HD := Lib.hid (HD.out.grown (grown_row _ xe [.int .i64 y, .int .i64 m, .int .i64 d, .int .i64 H, .int .i64 M, .int .i64 S].toArray) (fun e => absurd (Option.some.inj e) (by have := HLT.out; omega)))
        replace HU := Lib.hid (HU.out.row [.int .i64 y, .int .i64 m, .int .i64 d, .int .i64 H, .int .i64 M, .int .i64 S].toArray)
        refine hK.out _ _ (show (fun (w' : World) => w'.cell? ⟨bd, 0, none⟩ = some (.int .i64 y) ∧ w'.cell? ⟨bd, 1, none⟩ = some (.int .i64 m) ∧ w'.cell? ⟨bd, 2, none⟩ = some (.int .i64 d)) _ from ⟨HD.out.cell 0, HD.out.cell 1, HD.out.cell 2⟩) ?_
        clear hK K hS
        have hS := (show (fun (w' : World) => w'.cell? ⟨bd, 0, none⟩ = some (.int .i64 y) ∧ w'.cell? ⟨bd, 1, none⟩ = some (.int .i64 m) ∧ w'.cell? ⟨bd, 2, none⟩ = some (.int .i64 d)) _ from ⟨HD.out.cell 0, HD.out.cell 1, HD.out.cell 2⟩)
        refine Turns.rest (late_done (by kernel_rfl)) ?_
        refine any_tail 10 (by rfl) (by kernel_rfl) ?_
        simp only [List.drop_succ_cons, List.drop_zero]
        clear hS
        have u0 := HU.out.cell 0
        have u1 := HU.out.cell 1
        have u2 := HU.out.cell 2
        have u3 := HU.out.cell 3
        have u4 := HU.out.cell 4
        have u5 := HU.out.cell 5
        clear HN1 HN2 HN3 HP HD
        by_cases hts : TX = s
        · have HE := Lib.hid hts
          obtain ⟨t1, t2⟩ : (TX.toList == s.toList) = true ∧ (TX.toList != s.toList) = false := by rw [hts]; exact lit_eq _
          clear hts
          go_wp2_with (go_at_call 19; refine (HT.out _ HR.out.below).mono ?_; rintro e w9 ⟨rfl, hb9⟩; replace HR := Lib.hid (HR.out.next hb9); replace HU := Lib.hid (HU.out.below hb9 HU.out.lt); clear u0 u1 u2 u3 u4 u5 hb9; obtain ⟨r0, r1, r2, r3, r4, r5, g0, g1, g2, g3, g4, g5⟩ := HR.out.six; have u0 := HU.out.cell 0; have u1 := HU.out.cell 1; have u2 := HU.out.cell 2; have u3 := HU.out.cell 3; have u4 := HU.out.cell 4; have u5 := HU.out.cell 5)
          refine bodyPost_ret (results_row_tmp rfl _ _ w.heap.size 35 [.int .i64 y, .int .i64 m, .int .i64 d, .int .i64 H, .int .i64 M, .int .i64 S] _ _ rfl (HR.out.fill _ _ _ _ _ _).holds Tryd.underlying35 rfl utc_size rfl) rfl ?_
          exact ⟨.inl ⟨HE.out, rfl⟩, (HR.out.fill _ _ _ _ _ _).below⟩
        · have HE := Lib.hid hts
          obtain ⟨t1, t2⟩ : (TX.toList == s.toList) = false ∧ (TX.toList != s.toList) = true := lit_ne (fun e => hts (list_inj e))
          clear hts
          go_wp2_with (go_at_call 19; refine (HT.out _ HR.out.below).mono ?_; rintro e w9 ⟨rfl, hb9⟩; replace HR := Lib.hid (HR.out.next hb9); clear u0 u1 u2 u3 u4 u5 hb9; obtain ⟨r0, r1, r2, r3, r4, r5, g0, g1, g2, g3, g4, g5⟩ := HR.out.six)
          refine bodyPost_ret (results_row_tmp rfl _ _ w.heap.size 35 [.int .i64 0, .int .i64 0, .int .i64 0, .int .i64 0, .int .i64 0, .int .i64 0] _ _ rfl (HR.out.fill _ _ _ _ _ _).holds Tryd.underlying35 rfl utc_size rfl) rfl ?_
          exact ⟨.inr ⟨HE.out, rfl⟩, (HR.out.fill _ _ _ _ _ _).below⟩
    · go_simp
      have hlt : w.heap.size < w2.heap.size ∧ bd < w2.heap.size := ⟨HR.out.lt, HD.out.lt⟩
      have he := Holds.new w2 35 #[.int .i64 0, .int .i64 0, .int .i64 0, .int .i64 0, .int .i64 0, .int .i64 0]
      have hbl : Below w2.heap.size w2 (w2.alloc (.cells #[.int .i64 0, .int .i64 0, .int .i64 0, .int .i64 0, .int .i64 0, .int .i64 0] 35)) := below_alloc _ _
      replace HR := Lib.hid (HR.out.next hbl)
      replace HD := Lib.hid (HD.out.below hbl HD.out.lt)
      have HU : Hid (Holds (w2.alloc (.cells #[.int .i64 0, .int .i64 0, .int .i64 0, .int .i64 0, .int .i64 0, .int .i64 0] 35)) w2.heap.size 35 #[.int .i64 0, .int .i64 0, .int .i64 0, .int .i64 0, .int .i64 0, .int .i64 0]) := Lib.hid he
      obtain ⟨xe, hxe⟩ : ∃ xe, w2.heap.size = xe := ⟨_, rfl⟩
      rw [hxe] at hlt HU
      simp only [hxe]
      obtain ⟨U, hU⟩ : ∃ U, U = (w2.alloc (.cells #[.int .i64 0, .int .i64 0, .int .i64 0, .int .i64 0, .int .i64 0, .int .i64 0] 35)) := ⟨_, rfl⟩
      rw [← hU] at HR HD HU ⊢
      have HLT := Lib.hid hlt
      clear hxe hU hlt he hbl
      refine hK.out _ _ (show (fun (w' : World) => w'.cell? ⟨bd, 0, none⟩ = some (.int .i64 y) ∧ w'.cell? ⟨bd, 1, none⟩ = some (.int .i64 m) ∧ w'.cell? ⟨bd, 2, none⟩ = some (.int .i64 d)) _ from ⟨HD.out.cell 0, HD.out.cell 1, HD.out.cell 2⟩) ?_
      clear hK K hS
      have hS := (show (fun (w' : World) => w'.cell? ⟨bd, 0, none⟩ = some (.int .i64 y) ∧ w'.cell? ⟨bd, 1, none⟩ = some (.int .i64 m) ∧ w'.cell? ⟨bd, 2, none⟩ = some (.int .i64 d)) _ from ⟨HD.out.cell 0, HD.out.cell 1, HD.out.cell 2⟩)
      refine Turns.next 4 rfl (by kernel_rfl) (by rfl) (fun K hK => ?_)
      go_simp
      go_at_call 42
      refine (HN2.out _).mono ?_
      rintro e w4 ⟨rfl, hb⟩
      replace HR := Lib.hid (HR.out.next hb)
      replace HD := Lib.hid (HD.out.below hb HD.out.lt)
      try replace HU := Lib.hid (HU.out.below hb HU.out.lt)
      clear hb
      refine hK.out _ _ (show (fun (w' : World) => w'.cell? ⟨bd, 0, none⟩ = some (.int .i64 y) ∧ w'.cell? ⟨bd, 1, none⟩ = some (.int .i64 m) ∧ w'.cell? ⟨bd, 2, none⟩ = some (.int .i64 d)) _ from ⟨HD.out.cell 0, HD.out.cell 1, HD.out.cell 2⟩) ?_
      clear hK K hS
      have hS := (show (fun (w' : World) => w'.cell? ⟨bd, 0, none⟩ = some (.int .i64 y) ∧ w'.cell? ⟨bd, 1, none⟩ = some (.int .i64 m) ∧ w'.cell? ⟨bd, 2, none⟩ = some (.int .i64 d)) _ from ⟨HD.out.cell 0, HD.out.cell 1, HD.out.cell 2⟩)
      refine Turns.next 6 rfl (by kernel_rfl) (by rfl) (fun K hK => ?_)
      go_simp
      go_at_call 42
      refine (HN3.out _).mono ?_
      rintro e w6 ⟨rfl, hb⟩
      replace HR := Lib.hid (HR.out.next hb)
      replace HD := Lib.hid (HD.out.below hb HD.out.lt)
      try replace HU := Lib.hid (HU.out.below hb HU.out.lt)
      clear hb
      refine hK.out _ _ (show (fun (w' : World) => w'.cell? ⟨bd, 0, none⟩ = some (.int .i64 y) ∧ w'.cell? ⟨bd, 1, none⟩ = some (.int .i64 m) ∧ w'.cell? ⟨bd, 2, none⟩ = some (.int .i64 d)) _ from ⟨HD.out.cell 0, HD.out.cell 1, HD.out.cell 2⟩) ?_
      clear hK K hS
      have hS := (show (fun (w' : World) => w'.cell? ⟨bd, 0, none⟩ = some (.int .i64 y) ∧ w'.cell? ⟨bd, 1, none⟩ = some (.int .i64 m) ∧ w'.cell? ⟨bd, 2, none⟩ = some (.int .i64 d)) _ from ⟨HD.out.cell 0, HD.out.cell 1, HD.out.cell 2⟩)
      refine Turns.take hS 7 _ rfl (by kernel_rfl) (by kernel_rfl) (by kernel_rfl) (by kernel_rfl) (fun _ _ _ h => h) (by rfl) (fun w' hS' => by (try dsimp only at hS'); go_split_ands; go_simp; (try with_reducible rfl)) ?_
      simp only [Act.put, List.getElem_toArray, List.getElem_cons_succ, List.getElem_cons_zero, List.setIfInBounds_toArray, List.set_cons_zero, List.set_cons_succ]
      refine Turns.next 9 rfl (by kernel_rfl) (by rfl) (fun K hK => ?_)
      simp only [List.getElem_toArray, List.getElem_cons_succ, List.getElem_cons_zero]
      refine wp_store_at 35 (.tmp 6) (.tmp 24) rfl xe 0 [.int .i64 y, .int .i64 m, .int .i64 d, .int .i64 H, .int .i64 M, .int .i64 S] ?hs ?hx 35 [.int .i64 0, .int .i64 0, .int .i64 0, .int .i64 0, .int .i64 0, .int .i64 0] HU.out (by kernel_rfl) (Nat.le_refl 6) (one_ints6 _ _ _ _ _ _) ?_
      case hs => first | rfl | simp [Act.eval, Act.put]
      case hx => first | rfl | simp [Act.eval, Act.put]
      rw [hsp]
      replace HR := Lib.hid (HR.out.aside HLT.out.1 [.int .i64 y, .int .i64 m, .int .i64 d, .int .i64 H, .int .i64 M, .int .i64 S].toArray)
      replace HD := Lib.hid (HD.out.grown (grown_row _ xe [.int .i64 y, .int .i64 m, .int .i64 d, .int .i64 H, .int .i64 M, .int .i64 S].toArray) (fun e => absurd (Option.some.inj e) (by have := HLT.out; omega)))
      replace HU := Lib.hid (HU.out.row [.int .i64 y, .int .i64 m, .int .i64 d, .int .i64 H, .int .i64 M, .int .i64 S].toArray)
      refine hK.out _ _ (show (fun (w' : World) => w'.cell? ⟨bd, 0, none⟩ = some (.int .i64 y) ∧ w'.cell? ⟨bd, 1, none⟩ = some (.int .i64 m) ∧ w'.cell? ⟨bd, 2, none⟩ = some (.int .i64 d)) _ from ⟨HD.out.cell 0, HD.out.cell 1, HD.out.cell 2⟩) ?_
      clear hK K hS
      have hS := (show (fun (w' : World) => w'.cell? ⟨bd, 0, none⟩ = some (.int .i64 y) ∧ w'.cell? ⟨bd, 1, none⟩ = some (.int .i64 m) ∧ w'.cell? ⟨bd, 2, none⟩ = some (.int .i64 d)) _ from ⟨HD.out.cell 0, HD.out.cell 1, HD.out.cell 2⟩)
      refine Turns.rest (late_done (by kernel_rfl)) ?_
      refine any_tail 10 (by rfl) (by kernel_rfl) ?_
      simp only [List.drop_succ_cons, List.drop_zero]
      clear hS
      have u0 := HU.out.cell 0
      have u1 := HU.out.cell 1
      have u2 := HU.out.cell 2
      have u3 := HU.out.cell 3
      have u4 := HU.out.cell 4
      have u5 := HU.out.cell 5
      clear HN1 HN2 HN3 HP HD
      by_cases hts : TX = s
      · have HE := Lib.hid hts
        obtain ⟨t1, t2⟩ : (TX.toList == s.toList) = true ∧ (TX.toList != s.toList) = false := by rw [hts]; exact lit_eq _
        clear hts
        go_wp2_with (go_at_call 19; refine (HT.out _ HR.out.below).mono ?_; rintro e w9 ⟨rfl, hb9⟩; replace HR := Lib.hid (HR.out.next hb9); replace HU := Lib.hid (HU.out.below hb9 HU.out.lt); clear u0 u1 u2 u3 u4 u5 hb9; obtain ⟨r0, r1, r2, r3, r4, r5, g0, g1, g2, g3, g4, g5⟩ := HR.out.six; have u0 := HU.out.cell 0; have u1 := HU.out.cell 1; have u2 := HU.out.cell 2; have u3 := HU.out.cell 3; have u4 := HU.out.cell 4; have u5 := HU.out.cell 5)
        refine bodyPost_ret (results_row_tmp rfl _ _ w.heap.size 35 [.int .i64 y, .int .i64 m, .int .i64 d, .int .i64 H, .int .i64 M, .int .i64 S] _ _ rfl (HR.out.fill _ _ _ _ _ _).holds Tryd.underlying35 rfl utc_size rfl) rfl ?_
        exact ⟨.inl ⟨HE.out, rfl⟩, (HR.out.fill _ _ _ _ _ _).below⟩
      · have HE := Lib.hid hts
        obtain ⟨t1, t2⟩ : (TX.toList == s.toList) = false ∧ (TX.toList != s.toList) = true := lit_ne (fun e => hts (list_inj e))
        clear hts
        go_wp2_with (go_at_call 19; refine (HT.out _ HR.out.below).mono ?_; rintro e w9 ⟨rfl, hb9⟩; replace HR := Lib.hid (HR.out.next hb9); clear u0 u1 u2 u3 u4 u5 hb9; obtain ⟨r0, r1, r2, r3, r4, r5, g0, g1, g2, g3, g4, g5⟩ := HR.out.six)
        refine bodyPost_ret (results_row_tmp rfl _ _ w.heap.size 35 [.int .i64 0, .int .i64 0, .int .i64 0, .int .i64 0, .int .i64 0, .int .i64 0] _ _ rfl (HR.out.fill _ _ _ _ _ _).holds Tryd.underlying35 rfl utc_size rfl) rfl ?_
        exact ⟨.inr ⟨HE.out, rfl⟩, (HR.out.fill _ _ _ _ _ _).below⟩
  · go_simp
    have hlt : w.heap.size < V1.heap.size ∧ bd < V1.heap.size := ⟨HR.out.lt, HD.out.lt⟩
    have he := Holds.new V1 35 #[.int .i64 0, .int .i64 0, .int .i64 0, .int .i64 0, .int .i64 0, .int .i64 0]
    have hbl : Below V1.drew.heap.size V1.drew (V1.alloc (.cells #[.int .i64 0, .int .i64 0, .int .i64 0, .int .i64 0, .int .i64 0, .int .i64 0] 35)).drew := (show Below V1.drew.heap.size V1.drew (V1.drew.alloc (.cells #[.int .i64 0, .int .i64 0, .int .i64 0, .int .i64 0, .int .i64 0, .int .i64 0] 35)) from below_alloc _ _)
    replace HR := Lib.hid (HR.out.next hbl)
    replace HD := Lib.hid (HD.out.below hbl HD.out.lt)
    have HU : Hid (Holds (V1.alloc (.cells #[.int .i64 0, .int .i64 0, .int .i64 0, .int .i64 0, .int .i64 0, .int .i64 0] 35)).drew V1.heap.size 35 #[.int .i64 0, .int .i64 0, .int .i64 0, .int .i64 0, .int .i64 0, .int .i64 0]) := Lib.hid he
    obtain ⟨xe, hxe⟩ : ∃ xe, V1.heap.size = xe := ⟨_, rfl⟩
    rw [hxe] at hlt HU
    simp only [hxe]
    obtain ⟨U, hU⟩ : ∃ U, U = (V1.alloc (.cells #[.int .i64 0, .int .i64 0, .int .i64 0, .int .i64 0, .int .i64 0, .int .i64 0] 35)).drew := ⟨_, rfl⟩
    rw [← hU] at HR HD HU ⊢
    have HLT := Lib.hid hlt
    clear hxe hU hlt he hbl
    refine hK.out _ _ (show (fun (w' : World) => w'.cell? ⟨bd, 0, none⟩ = some (.int .i64 y) ∧ w'.cell? ⟨bd, 1, none⟩ = some (.int .i64 m) ∧ w'.cell? ⟨bd, 2, none⟩ = some (.int .i64 d)) _ from ⟨HD.out.cell 0, HD.out.cell 1, HD.out.cell 2⟩) ?_
    clear hK K hS
    have hS := (show (fun (w' : World) => w'.cell? ⟨bd, 0, none⟩ = some (.int .i64 y) ∧ w'.cell? ⟨bd, 1, none⟩ = some (.int .i64 m) ∧ w'.cell? ⟨bd, 2, none⟩ = some (.int .i64 d)) _ from ⟨HD.out.cell 0, HD.out.cell 1, HD.out.cell 2⟩)
    refine Turns.next 2 rfl (by kernel_rfl) (by rfl) (fun K hK => ?_)
    go_simp
    go_at_call 42
    refine (HN1.out _).mono ?_
    rintro e w2 ⟨rfl, hb⟩
    replace HR := Lib.hid (HR.out.next hb)
    replace HD := Lib.hid (HD.out.below hb HD.out.lt)
    try replace HU := Lib.hid (HU.out.below hb HU.out.lt)
    clear hb
    refine hK.out _ _ (show (fun (w' : World) => w'.cell? ⟨bd, 0, none⟩ = some (.int .i64 y) ∧ w'.cell? ⟨bd, 1, none⟩ = some (.int .i64 m) ∧ w'.cell? ⟨bd, 2, none⟩ = some (.int .i64 d)) _ from ⟨HD.out.cell 0, HD.out.cell 1, HD.out.cell 2⟩) ?_
    clear hK K hS
    have hS := (show (fun (w' : World) => w'.cell? ⟨bd, 0, none⟩ = some (.int .i64 y) ∧ w'.cell? ⟨bd, 1, none⟩ = some (.int .i64 m) ∧ w'.cell? ⟨bd, 2, none⟩ = some (.int .i64 d)) _ from ⟨HD.out.cell 0, HD.out.cell 1, HD.out.cell 2⟩)
    refine Turns.next 4 rfl (by kernel_rfl) (by rfl) (fun K hK => ?_)
    go_simp
    go_at_call 42
    refine (HN2.out _).mono ?_
    rintro e w4 ⟨rfl, hb⟩
    replace HR := Lib.hid (HR.out.next hb)
    replace HD := Lib.hid (HD.out.below hb HD.out.lt)
    try replace HU := Lib.hid (HU.out.below hb HU.out.lt)
    clear hb
    refine hK.out _ _ (show (fun (w' : World) => w'.cell? ⟨bd, 0, none⟩ = some (.int .i64 y) ∧ w'.cell? ⟨bd, 1, none⟩ = some (.int .i64 m) ∧ w'.cell? ⟨bd, 2, none⟩ = some (.int .i64 d)) _ from ⟨HD.out.cell 0, HD.out.cell 1, HD.out.cell 2⟩) ?_
    clear hK K hS
    have hS := (show (fun (w' : World) => w'.cell? ⟨bd, 0, none⟩ = some (.int .i64 y) ∧ w'.cell? ⟨bd, 1, none⟩ = some (.int .i64 m) ∧ w'.cell? ⟨bd, 2, none⟩ = some (.int .i64 d)) _ from ⟨HD.out.cell 0, HD.out.cell 1, HD.out.cell 2⟩)
    refine Turns.next 6 rfl (by kernel_rfl) (by rfl) (fun K hK => ?_)
    go_simp
    go_at_call 42
    refine (HN3.out _).mono ?_
    rintro e w6 ⟨rfl, hb⟩
    replace HR := Lib.hid (HR.out.next hb)
    replace HD := Lib.hid (HD.out.below hb HD.out.lt)
    try replace HU := Lib.hid (HU.out.below hb HU.out.lt)
    clear hb
    refine hK.out _ _ (show (fun (w' : World) => w'.cell? ⟨bd, 0, none⟩ = some (.int .i64 y) ∧ w'.cell? ⟨bd, 1, none⟩ = some (.int .i64 m) ∧ w'.cell? ⟨bd, 2, none⟩ = some (.int .i64 d)) _ from ⟨HD.out.cell 0, HD.out.cell 1, HD.out.cell 2⟩) ?_
    clear hK K hS
    have hS := (show (fun (w' : World) => w'.cell? ⟨bd, 0, none⟩ = some (.int .i64 y) ∧ w'.cell? ⟨bd, 1, none⟩ = some (.int .i64 m) ∧ w'.cell? ⟨bd, 2, none⟩ = some (.int .i64 d)) _ from ⟨HD.out.cell 0, HD.out.cell 1, HD.out.cell 2⟩)
    refine Turns.take hS 7 _ rfl (by kernel_rfl) (by kernel_rfl) (by kernel_rfl) (by kernel_rfl) (fun _ _ _ h => h) (by rfl) (fun w' hS' => by (try dsimp only at hS'); go_split_ands; go_simp; (try with_reducible rfl)) ?_
    simp only [Act.put, List.getElem_toArray, List.getElem_cons_succ, List.getElem_cons_zero, List.setIfInBounds_toArray, List.set_cons_zero, List.set_cons_succ]
    refine Turns.next 9 rfl (by kernel_rfl) (by rfl) (fun K hK => ?_)
    simp only [List.getElem_toArray, List.getElem_cons_succ, List.getElem_cons_zero]
    refine wp_store_at 35 (.tmp 6) (.tmp 24) rfl xe 0 [.int .i64 y, .int .i64 m, .int .i64 d, .int .i64 H, .int .i64 M, .int .i64 S] ?hs ?hx 35 [.int .i64 0, .int .i64 0, .int .i64 0, .int .i64 0, .int .i64 0, .int .i64 0] HU.out (by kernel_rfl) (Nat.le_refl 6) (one_ints6 _ _ _ _ _ _) ?_
    case hs => first | rfl | simp [Act.eval, Act.put]
    case hx => first | rfl | simp [Act.eval, Act.put]
    rw [hsp]
    replace HR := Lib.hid (HR.out.aside HLT.out.1 [.int .i64 y, .int .i64 m, .int .i64 d, .int .i64 H, .int .i64 M, .int .i64 S].toArray)
    replace HD := Lib.hid (HD.out.grown (grown_row _ xe [.int .i64 y, .int .i64 m, .int .i64 d, .int .i64 H, .int .i64 M, .int .i64 S].toArray) (fun e => absurd (Option.some.inj e) (by have := HLT.out; omega)))
    replace HU := Lib.hid (HU.out.row [.int .i64 y, .int .i64 m, .int .i64 d, .int .i64 H, .int .i64 M, .int .i64 S].toArray)
    refine hK.out _ _ (show (fun (w' : World) => w'.cell? ⟨bd, 0, none⟩ = some (.int .i64 y) ∧ w'.cell? ⟨bd, 1, none⟩ = some (.int .i64 m) ∧ w'.cell? ⟨bd, 2, none⟩ = some (.int .i64 d)) _ from ⟨HD.out.cell 0, HD.out.cell 1, HD.out.cell 2⟩) ?_
    clear hK K hS
    have hS := (show (fun (w' : World) => w'.cell? ⟨bd, 0, none⟩ = some (.int .i64 y) ∧ w'.cell? ⟨bd, 1, none⟩ = some (.int .i64 m) ∧ w'.cell? ⟨bd, 2, none⟩ = some (.int .i64 d)) _ from ⟨HD.out.cell 0, HD.out.cell 1, HD.out.cell 2⟩)
    refine Turns.rest (late_done (by kernel_rfl)) ?_
    refine any_tail 10 (by rfl) (by kernel_rfl) ?_
    simp only [List.drop_succ_cons, List.drop_zero]
    clear hS
    have u0 := HU.out.cell 0
    have u1 := HU.out.cell 1
    have u2 := HU.out.cell 2
    have u3 := HU.out.cell 3
    have u4 := HU.out.cell 4
    have u5 := HU.out.cell 5
    clear HN1 HN2 HN3 HP HD
    by_cases hts : TX = s
    · have HE := Lib.hid hts
      obtain ⟨t1, t2⟩ : (TX.toList == s.toList) = true ∧ (TX.toList != s.toList) = false := by rw [hts]; exact lit_eq _
      clear hts
      go_wp2_with (go_at_call 19; refine (HT.out _ HR.out.below).mono ?_; rintro e w9 ⟨rfl, hb9⟩; replace HR := Lib.hid (HR.out.next hb9); replace HU := Lib.hid (HU.out.below hb9 HU.out.lt); clear u0 u1 u2 u3 u4 u5 hb9; obtain ⟨r0, r1, r2, r3, r4, r5, g0, g1, g2, g3, g4, g5⟩ := HR.out.six; have u0 := HU.out.cell 0; have u1 := HU.out.cell 1; have u2 := HU.out.cell 2; have u3 := HU.out.cell 3; have u4 := HU.out.cell 4; have u5 := HU.out.cell 5)
      refine bodyPost_ret (results_row_tmp rfl _ _ w.heap.size 35 [.int .i64 y, .int .i64 m, .int .i64 d, .int .i64 H, .int .i64 M, .int .i64 S] _ _ rfl (HR.out.fill _ _ _ _ _ _).holds Tryd.underlying35 rfl utc_size rfl) rfl ?_
      exact ⟨.inl ⟨HE.out, rfl⟩, (HR.out.fill _ _ _ _ _ _).below⟩
    · have HE := Lib.hid hts
      obtain ⟨t1, t2⟩ : (TX.toList == s.toList) = false ∧ (TX.toList != s.toList) = true := lit_ne (fun e => hts (list_inj e))
      clear hts
      go_wp2_with (go_at_call 19; refine (HT.out _ HR.out.below).mono ?_; rintro e w9 ⟨rfl, hb9⟩; replace HR := Lib.hid (HR.out.next hb9); clear u0 u1 u2 u3 u4 u5 hb9; obtain ⟨r0, r1, r2, r3, r4, r5, g0, g1, g2, g3, g4, g5⟩ := HR.out.six)
      refine bodyPost_ret (results_row_tmp rfl _ _ w.heap.size 35 [.int .i64 0, .int .i64 0, .int .i64 0, .int .i64 0, .int .i64 0, .int .i64 0] _ _ rfl (HR.out.fill _ _ _ _ _ _).holds Tryd.underlying35 rfl utc_size rfl) rfl ?_
      exact ⟨.inr ⟨HE.out, rfl⟩, (HR.out.fill _ _ _ _ _ _).below⟩
/-- A text that is a second's. -/
theorem uparse_yes (s : ByteArray) (y m d H M S : Int) (w : World) (h : IsUtc s y m d H M S) (hT : Tab w) :
    Calls Tryd.prog 23 #[.string s] w fun e w' => e = .returned (.tuple #[.agg #[.int .i64 y, .int .i64 m, .int .i64 d, .int .i64 H, .int .i64 M, .int .i64 S], .bool true]) ∧ Below w.heap.size w w' := by
  have hc := h.can
  have e1 : numW s 11 = H := by rw [numW_dig (by rw [h.hE]; exact hc.h1), h.hE]
  have e2 : numW s 14 = M := by rw [numW_dig (by rw [h.mE]; exact hc.m1), h.mE]
  have e3 : numW s 17 = S := by rw [numW_dig (by rw [h.sE]; exact hc.s1), h.sE]
  have k := uparse_core s (textU y m d H M S) w y m d true h.size (Nat.le_of_eq (textU_size ..)) (fun W => parse_yes _ y m d W h.date) (fun W hW => by rw [e1, e2, e3]; exact utext_yes y m d H M S W h.date.can hc (hT.below hW))
  rw [e1, e2, e3] at k
  refine k.mono ?_
  rintro e w' ⟨⟨_, he⟩ | ⟨hn, _⟩, hb⟩
  · exact ⟨he, hb⟩
  · exact absurd (is_textU h) hn
theorem uparse_no (s : ByteArray) (w : World) (h : ¬ ∃ y m d H M S, IsUtc s y m d H M S) (hT : Tab w) :
    Calls Tryd.prog 23 #[.string s] w fun e w' => e = .returned (.tuple #[.agg #[.int .i64 0, .int .i64 0, .int .i64 0, .int .i64 0, .int .i64 0, .int .i64 0], .bool false]) ∧ Below w.heap.size w w' := by
  by_cases hs : s.size = 20
  · obtain ⟨y, m, d, ok, hp⟩ : ∃ y m d ok, ∀ W, Calls Tryd.prog 41 #[.string (s.extract 0 10)] W fun e w' => e = .returned (.tuple #[.agg #[.int .i64 y, .int .i64 m, .int .i64 d], .bool ok]) ∧ Below W.heap.size W w' := by
      by_cases k : ∃ y m d, IsDate (s.extract 0 10) y m d
      · obtain ⟨y, m, d, k⟩ := k
        exact ⟨y, m, d, true, fun W => parse_yes _ y m d W k⟩
      · exact ⟨0, 0, 0, false, fun W => parse_no _ W (by rw [size_cut s 0 10 (by omega) (by omega)]; unfold maxLen; omega) k⟩
    by_cases hg : CanD y m d ∧ CanT (numW s 11) (numW s 14) (numW s 17)
    · refine (uparse_core s (textU y m d (numW s 11) (numW s 14) (numW s 17)) w y m d ok hs (Nat.le_of_eq (textU_size ..)) hp (fun W hW => utext_yes y m d _ _ _ W hg.1 hg.2 (hT.below hW))).mono ?_
      rintro e w' ⟨⟨he, _⟩ | ⟨_, he⟩, hb⟩
      · have := textU_is hg.1 hg.2
        rw [he] at this
        exact absurd ⟨_, _, _, _, _, _, this⟩ h
      · exact ⟨he, hb⟩
    · refine (uparse_core s ⟨#[]⟩ w y m d ok hs (Nat.zero_le _) hp (fun W hW => utext_no y m d _ _ _ W hg)).mono ?_
      rintro e w' ⟨⟨he, _⟩ | ⟨_, he⟩, hb⟩
      · rw [← he] at hs
        cases hs
      · exact ⟨he, hb⟩
  · exact uparse_short s w hs
end Go.Proofs.YtcknllkbeadmlaaDoor
