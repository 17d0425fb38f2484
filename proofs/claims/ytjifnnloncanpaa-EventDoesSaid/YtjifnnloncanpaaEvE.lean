/- The document's log: Tag that is taken; Take. -/
import Derived.Test.YtjifnnloncanpaaEvD
import Derived.Test.YtjifnnloncanpaaTurn
namespace Go.Proofs.Ytjifnnloncanpaa
open Go.RowKit
set_option linter.unusedVariables false
set_option linter.unusedSimpArgs false

theorem below_newest {B : Nat} {w W : World} (_ : Below B w W) (t : TypeId) (cs : Array Value) : Holds (W.alloc (.cells cs t)) W.heap.size t cs := Holds.new W _ _
theorem own_start {B : Nat} {w W : World} (h : Below B w W) (hB : B ≤ w.heap.size) (e : TypeId) (k : Nat) : (W.alloc (.cells #[] e)).ownsRow B e k (.slice (some ⟨W.heap.size, 0, none⟩) 0 0) 0 [] :=
  World.ownsRow_made W #[] 0 (Nat.le_trans hB h.size) (by unfold maxLen; omega) (by simp)
theorem vrow_new {w : World} {B g : Nat} {e : TypeId} {v : Value} (h : Holds w g e #[v]) (h1 : v.oneCell' = true) (hB : B ≤ g) : VRow B w (some ⟨g, 0, none⟩) 1 1 [v] :=
  ⟨rfl, Nat.le_refl _, by simp [maxLen], (fun h => by cases h), fun u hu => by rw [List.mem_singleton.1 hu]; exact h1, fun _ => ⟨_, 0, rfl, hB, h.lt, fun j u hu => by
    rw [Nat.zero_add, h.cell, List.getElem?_toArray]
    exact hu⟩⟩
/-- Behind a Tag that is taken. -/
def DTagged (B d : Nat) (L : List Ev) (x : Ev) (w : World) (e : Ending) (w' : World) : Prop := e = .returned (.tuple #[.int .i64 x.id, .int .i64 0]) ∧ Dl w' B d (L ++ [x]) x.id ∧ Chg (fun k => k = d) w w'
theorem ids_snoc (L : List Ev) (x : Ev) : idsOf L ++ [.int .i64 x.id] = idsOf (L ++ [x]) := by simp [idsOf]
theorem labs_snoc (L : List Ev) (x : Ev) : labsOf L ++ [.string x.lab] = labsOf (L ++ [x]) := by simp [labsOf]
set_option maxHeartbeats 4000000 in
theorem dtag_any (x : Ev) (w : World) (B d : Nat) (L : List Ev) (last : Int) (h : Dl w B d L last) (hg : goodL x.lab = true) (hs : x.lab.size ≤ 1000) (hlt : L.length < 16) (h0 : 0 ≤ last) (h1 : last ≤ 100000) (hx : x.id = last + 1) (hdB : d < B) (hBw : B ≤ w.heap.size) :
    Calls Try.prog 13 #[.pointer (some ⟨d, 0, none⟩), .string x.lab] w (DTagged B d L x w) := by
  have hgd := rgood_any x.lab w hs
  rw [hg] at hgd
  have e1 : IntKind.i64.wrap (last + 1) = x.id := by rw [IntWalk.i64_in _ (by omega), hx]
  obtain ⟨A, c, A2, c2, hh, hr1, hr2⟩ := h
  have hset := hh.put 2 (.int .i64 x.id)
  have hchg : Chg (fun k => k = d) w (w.setCell ⟨d, 2, none⟩ (.int .i64 x.id)) := Chg.set (S := fun k => k = d) w d 2 _ rfl
  have hr1' := hr1.chg hchg (fun k hk => by omega)
  have hr2' := hr2.chg hchg (fun k hk => by omega)
  have d1 : decide (16 ≤ (L.length : Int)) = false := decide_eq_false (by omega)
  have hend : ∀ (W : World) (A' A2' : Option Addr) (c' c2' : Nat), Holds W d 30 #[.slice A' (L.length + 1) c', .slice A2' (L.length + 1) c2', .int .i64 x.id] → W.ownsRow w.heap.size 3 1 (.slice A' (L.length + 1) c') (L.length + 1) (idsOf L ++ [.int .i64 x.id]) → W.ownsRow w.heap.size 9 1 (.slice A2' (L.length + 1) c2') (L.length + 1) (labsOf L ++ [.string x.lab]) → Chg (fun k => k = d) w W →
      DTagged B d L x w (.returned (.tuple #[.int .i64 x.id, .int .i64 0])) W := fun W A' A2' c' c2' hW ho1 ho2 hc => by
    rw [ids_snoc] at ho1
    rw [labs_snoc] at ho2
    have hl : (L ++ [x]).length = L.length + 1 := by simp
    refine ⟨rfl, ⟨A', c', A2', c2', ?_, ?_, ?_⟩, hc⟩
    · rw [hl]; exact hW
    · rw [hl]; exact (VRow.of_own ho1 (ids_one _)).up hBw
    · rw [hl]; exact (VRow.of_own ho2 (labs_one _)).up hBw
  have HEnd := Lib.hid hend
  obtain ⟨n, hn⟩ : ∃ n, L.length = n := ⟨_, rfl⟩
  rw [hn] at hh hset hr1' hr2' d1 HEnd hlt
  have c0 := hh.cell 0
  have c2c := hh.cell 2
  have f2 := hh.soft 2
  obtain ⟨W0, hW0⟩ : ∃ W0, w.setCell ⟨d, 2, none⟩ (.int .i64 x.id) = W0 := ⟨_, rfl⟩
  rw [hW0] at hset hchg hr1' hr2'
  have HH : Hid (Holds W0 d 30 #[.slice A n c, .slice A2 n c2, .int .i64 x.id]) := Lib.hid hset
  have HC := Lib.hid hchg
  have HR1 := Lib.hid hr1'
  have HR2 := Lib.hid hr2'
  have HX := Lib.hid hx
  have hsz : W0.heap.size = w.heap.size := by rw [← hW0]; simp [World.setCell]
  have HSz := Lib.hid hsz
  have HW0 := Lib.hid hW0
  have HG := Lib.hid hg
  obtain ⟨i1, hi1, hz1, hs1, hb1⟩ : ∃ i, Try.prog.info? 3 = some i ∧ i.zero = some (.int .i64 0) ∧ i.size = 1 ∧ i.bytes = 8 := by
    obtain ⟨i, hi, hzz⟩ := Option.map_eq_some_iff.1 int_info
    simp only [Prod.mk.injEq] at hzz
    exact ⟨i, hi, hzz⟩
  obtain ⟨i2, hi2, hz2, hs2, hb2⟩ : ∃ i, Try.prog.info? 9 = some i ∧ i.zero = some (.string ⟨#[]⟩) ∧ i.size = 1 ∧ i.bytes = 16 := by
    obtain ⟨i, hi, hzz⟩ := Option.map_eq_some_iff.1 str_info
    simp only [Prod.mk.injEq] at hzz
    exact ⟨i, hi, hzz⟩
  have HI1 := Lib.hid (And.intro hi1 (And.intro hz1 (And.intro hs1 hb1)))
  have HI2 := Lib.hid (And.intro hi2 (And.intro hz2 (And.intro hs2 hb2)))
  clear hi1 hz1 hs1 hb1 hi2 hz2 hs2 hb2 hh hset hr1 hr2 hr1' hr2' hchg hend hx hW0 hsz hg hn
  go_enter Try.func13, Try.ntmps13
  go_upto_region 6 with (go_at_call 15; refine hgd.mono ?_; rintro e wx ⟨rfl, hwx⟩; subst wx)
  rw [HW0.out]
  clear c0 c2c f2 hgd
  have k0 : W0.drew.cell? ⟨d, 0, none⟩ = some (.slice A n c) := HH.out.cell 0
  have k2 : W0.drew.cell? ⟨d, 2, none⟩ = some (.int .i64 x.id) := HH.out.cell 2
  have kb : Below W0.heap.size W0 W0.drew := below_drewN (Below.refl _ _) 1
  refine region_turns (fun (w' : World) => w'.cell? ⟨d, 0, none⟩ = some (.slice A n c) ∧ w'.cell? ⟨d, 2, none⟩ = some (.int .i64 x.id) ∧ Below W0.heap.size W0 w') (fun j => decide (13 ≤ j)) (by kernel_rfl) (⟨k0, k2, kb⟩) (fun hS => ?_)
  refine Turns.take hS 0 _ rfl (by kernel_rfl) (by kernel_rfl) (by kernel_rfl) (by kernel_rfl) (fun _ _ _ h => h) (by rfl) (fun w' hS' => by (try dsimp only at hS'); go_split_ands; go_simp; (try with_reducible rfl)) ?_
  simp only [Act.put, List.getElem_toArray, List.getElem_cons_succ, List.getElem_cons_zero, List.setIfInBounds_toArray, List.set_cons_zero, List.set_cons_succ]
  refine Turns.take hS 2 _ rfl (by kernel_rfl) (by kernel_rfl) (by kernel_rfl) (by kernel_rfl) (fun _ _ _ h => h) (by rfl) (fun w' hS' => by (try dsimp only at hS'); go_split_ands; go_simp; (try with_reducible rfl)) ?_
  simp only [Act.put, List.getElem_toArray, List.getElem_cons_succ, List.getElem_cons_zero, List.setIfInBounds_toArray, List.set_cons_zero, List.set_cons_succ]
  refine Turns.take hS 3 _ rfl (by kernel_rfl) (by kernel_rfl) (by kernel_rfl) (by kernel_rfl) (fun _ _ _ h => h) (by rfl) (fun w' hS' => by (try dsimp only at hS'); go_split_ands; go_simp; (try with_reducible rfl)) ?_
  simp only [Act.put, List.getElem_toArray, List.getElem_cons_succ, List.getElem_cons_zero, List.setIfInBounds_toArray, List.set_cons_zero, List.set_cons_succ]
  refine Turns.take hS 4 _ rfl (by kernel_rfl) (by kernel_rfl) (by kernel_rfl) (by kernel_rfl) (fun _ _ _ h => h) (by rfl) (fun w' hS' => by (try dsimp only at hS'); go_split_ands; go_simp; (try with_reducible rfl)) ?_
  simp only [Act.put, List.getElem_toArray, List.getElem_cons_succ, List.getElem_cons_zero, List.setIfInBounds_toArray, List.set_cons_zero, List.set_cons_succ]
  refine Turns.take hS 5 _ rfl (by kernel_rfl) (by kernel_rfl) (by kernel_rfl) (by kernel_rfl) (fun _ _ _ h => h) (by rfl) (fun w' hS' => by (try dsimp only at hS'); go_split_ands; go_simp; (try with_reducible rfl)) ?_
  simp only [Act.put, List.getElem_toArray, List.getElem_cons_succ, List.getElem_cons_zero, List.setIfInBounds_toArray, List.set_cons_zero, List.set_cons_succ]
  refine Turns.take hS 7 _ rfl (by kernel_rfl) (by kernel_rfl) (by kernel_rfl) (by kernel_rfl) (fun _ _ _ h => h) (by rfl) (fun w' hS' => by (try dsimp only at hS'); go_split_ands; go_simp; (try with_reducible rfl)) ?_
  simp only [Act.put, List.getElem_toArray, List.getElem_cons_succ, List.getElem_cons_zero, List.setIfInBounds_toArray, List.set_cons_zero, List.set_cons_succ]
  refine Turns.take hS 8 _ rfl (by kernel_rfl) (by kernel_rfl) (by kernel_rfl) (by kernel_rfl) (fun _ _ _ h => h) (by rfl) (fun w' hS' => by (try dsimp only at hS'); go_split_ands; go_simp; (try with_reducible rfl)) ?_
  simp only [Act.put, List.getElem_toArray, List.getElem_cons_succ, List.getElem_cons_zero, List.setIfInBounds_toArray, List.set_cons_zero, List.set_cons_succ]
  refine Turns.take hS 9 _ rfl (by kernel_rfl) (by kernel_rfl) (by kernel_rfl) (by kernel_rfl) (fun _ _ _ h => h) (by rfl) (fun w' hS' => by (try dsimp only at hS'); go_split_ands; go_simp; (try with_reducible rfl)) ?_
  simp only [Act.put, List.getElem_toArray, List.getElem_cons_succ, List.getElem_cons_zero, List.setIfInBounds_toArray, List.set_cons_zero, List.set_cons_succ]
  refine Turns.take hS 10 _ rfl (by kernel_rfl) (by kernel_rfl) (by kernel_rfl) (by kernel_rfl) (fun _ _ _ h => h) (by rfl) (fun w' hS' => by (try dsimp only at hS'); go_split_ands; go_simp; (try with_reducible rfl)) ?_
  simp only [Act.put, List.getElem_toArray, List.getElem_cons_succ, List.getElem_cons_zero, List.setIfInBounds_toArray, List.set_cons_zero, List.set_cons_succ]
  refine Turns.either 1 11 rfl rfl (by kernel_rfl) (by rfl) (by rfl) (fun K hK => ?_) (fun K hK => ?_)
  · go_simp
    have HE := Lib.hid (hS.2.2.alloc hS.2.2.size (.cells #[] 3))
    have HO := Lib.hid (own_start hS.2.2 (Nat.le_refl _) 3 1)
    try replace HX := Lib.hid (HX.out.alloc (.cells #[] 3))
    have HD := Lib.hid (HH.out.below HE.out HH.out.lt)
    refine hK.out _ _ (show (fun (w' : World) => w'.cell? ⟨d, 0, none⟩ = some (.slice A n c) ∧ w'.cell? ⟨d, 2, none⟩ = some (.int .i64 x.id) ∧ Below W0.heap.size W0 w') _ from ⟨HD.out.cell 0, HD.out.cell 2, HE.out⟩) ?_
    clear hK K hS
    have hS := (show (fun (w' : World) => w'.cell? ⟨d, 0, none⟩ = some (.slice A n c) ∧ w'.cell? ⟨d, 2, none⟩ = some (.int .i64 x.id) ∧ Below W0.heap.size W0 w') _ from ⟨HD.out.cell 0, HD.out.cell 2, HE.out⟩)
    refine Turns.either 6 11 rfl rfl (by kernel_rfl) (by rfl) (by rfl) (fun K hK => ?_) (fun K hK => ?_)
    · obtain ⟨A3, cc3, W3, hrun, hown3, hg3⟩ := run_append_v (P := Try.prog) _ W0.heap.size B 27 27 3 i1 _ 8 Try.underlying27 HI1.out.1 HI1.out.2.1 HI1.out.2.2.1 HI1.out.2.2.2 rfl _ 0 [] HO.out A n c _ (HR1.out.below hS.2.2) (by unfold maxLen; omega) (by omega) hS.2.2.size
      simp only [Nat.zero_add, List.nil_append] at hrun hown3
      have HE := Lib.hid (hS.2.2.grown hg3 hS.2.2.size (fun k hk => (HO.out.lt k hk).1))
      try replace HX := Lib.hid (HX.out.grown hg3 (by simp [Value.ownBlock]))
      refine Lib.wp_append_run_sl _ (.tmp 23) (.tmp 27) 27 rfl _ _ ?hs ?hx hrun ?_
      case hs => first | rfl | simp [Act.eval, Act.put]
      case hx => first | rfl | simp [Act.eval, Act.put]
      replace HO := Lib.hid hown3
      have HD := Lib.hid (HH.out.below HE.out HH.out.lt)
      clear hrun hown3 hg3
      refine hK.out _ _ (show (fun (w' : World) => w'.cell? ⟨d, 0, none⟩ = some (.slice A n c) ∧ w'.cell? ⟨d, 2, none⟩ = some (.int .i64 x.id) ∧ Below W0.heap.size W0 w') _ from ⟨HD.out.cell 0, HD.out.cell 2, HE.out⟩) ?_
      clear hK K hS
      have hS := (show (fun (w' : World) => w'.cell? ⟨d, 0, none⟩ = some (.slice A n c) ∧ w'.cell? ⟨d, 2, none⟩ = some (.int .i64 x.id) ∧ Below W0.heap.size W0 w') _ from ⟨HD.out.cell 0, HD.out.cell 2, HE.out⟩)
      refine Turns.next 11 rfl (by kernel_rfl) (by rfl) (fun K hK => ?_)
      go_simp
      have HE := Lib.hid (hS.2.2.alloc hS.2.2.size (.cells #[.int .i64 x.id] 3))
      have HX := Lib.hid (below_newest hS.2.2 3 #[.int .i64 x.id])
      have HXB := Lib.hid hS.2.2.size
      try replace HO := Lib.hid (own_keepK HO.out (below_alloc _ (.cells #[.int .i64 x.id] 3)))
      have HD := Lib.hid (HH.out.below HE.out HH.out.lt)
      refine hK.out _ _ (show (fun (w' : World) => w'.cell? ⟨d, 0, none⟩ = some (.slice A n c) ∧ w'.cell? ⟨d, 2, none⟩ = some (.int .i64 x.id) ∧ Below W0.heap.size W0 w') _ from ⟨HD.out.cell 0, HD.out.cell 2, HE.out⟩) ?_
      clear hK K hS
      have hS := (show (fun (w' : World) => w'.cell? ⟨d, 0, none⟩ = some (.slice A n c) ∧ w'.cell? ⟨d, 2, none⟩ = some (.int .i64 x.id) ∧ Below W0.heap.size W0 w') _ from ⟨HD.out.cell 0, HD.out.cell 2, HE.out⟩)
      refine Turns.next 12 rfl (by kernel_rfl) (by rfl) (fun K hK => ?_)
      obtain ⟨A4, cc4, W4, hrun, hown4, hg4⟩ := run_append_v (P := Try.prog) _ W0.heap.size W0.heap.size 27 27 3 i1 _ 8 Try.underlying27 HI1.out.1 HI1.out.2.1 HI1.out.2.2.1 HI1.out.2.2.2 rfl _ n _ HO.out _ 1 1 _ (vrow_new HX.out rfl HXB.out) (by unfold maxLen; omega) (by omega) hS.2.2.size
      have HE := Lib.hid (hS.2.2.grown hg4 hS.2.2.size (fun k hk => (HO.out.lt k hk).1))
      refine Lib.wp_append_run_sl _ (.tmp 28) (.tmp 33) 27 rfl _ _ ?hs ?hx hrun ?_
      case hs => first | rfl | simp [Act.eval, Act.put]
      case hx => first | rfl | simp [Act.eval, Act.put]
      replace HO := Lib.hid hown4
      have HD := Lib.hid (HH.out.below HE.out HH.out.lt)
      clear hrun hown4 hg4
      refine hK.out _ _ (show (fun (w' : World) => w'.cell? ⟨d, 0, none⟩ = some (.slice A n c) ∧ w'.cell? ⟨d, 2, none⟩ = some (.int .i64 x.id) ∧ Below W0.heap.size W0 w') _ from ⟨HD.out.cell 0, HD.out.cell 2, HE.out⟩) ?_
      clear hK K hS
      have hS := (show (fun (w' : World) => w'.cell? ⟨d, 0, none⟩ = some (.slice A n c) ∧ w'.cell? ⟨d, 2, none⟩ = some (.int .i64 x.id) ∧ Below W0.heap.size W0 w') _ from ⟨HD.out.cell 0, HD.out.cell 2, HE.out⟩)
      refine Turns.rest (late_done (by kernel_rfl)) ?_
      refine any_tail 13 (by rfl) (by kernel_rfl) ?_
      simp only [List.drop_succ_cons, List.drop_zero]
      clear hS
      have k0 := HD.out.cell 0
      have f0 := HD.out.soft 0
      have HD5 := Lib.hid (HD.out.put 0 (.slice A4 (n + 1) cc4))
      have hset : Chg (fun k => k = d) W4 (W4.setCell ⟨d, 0, none⟩ (.slice A4 (n + 1) cc4)) := Chg.set (S := fun k => k = d) W4 d 0 _ rfl
      have HO5 := Lib.hid (own_chg HO.out hset (fun q hq e => by
        have h1 := (HO.out.lt q hq).1
        have h2 := HH.out.lt
        omega))
      have HC5 := Lib.hid ((HC.out.trans (Chg.of_below (fun _ => False) HE.out) (fun _ _ h => h.elim)).trans hset (fun _ _ h => h))
      have HR5 := Lib.hid ((HR2.out.below HE.out).chg hset (fun k hk => by omega))
      clear hset HX HXB k2 kb
      go_upto_region 7 with (fail)
      obtain ⟨W5, hW5⟩ : ∃ W5, W4.setCell ⟨d, 0, none⟩ (.slice A4 (n + 1) cc4) = W5 := ⟨_, rfl⟩
      rw [hW5] at HD5 HO5 HC5 HR5 ⊢
      clear hW5 HO HE HD k0 f0
      have hba := below_alloc W5 (.cells #[] 9)
      have ca := (HD5.out.below hba HD5.out.lt).cell 1
      have HA := Lib.hid hba
      have HRa := Lib.hid (HR5.out.below hba)
      have HOwn := Lib.hid (own_start (Below.refl W5.heap.size W5) (Nat.le_refl _) 9 1)
      have hsz2 : W5.heap.size ≤ (W5.alloc (.cells #[] 9)).heap.size := hba.size
      clear hba
      go_wp2_with (first
        | (at_builtin; refine wpList_append_v _ rfl (.tmp 38) (.tmp 42) _ rfl W5.heap.size B 9 i2 _ 16 Try.underlying28 HI2.out.1 HI2.out.2.1 HI2.out.2.2.1 HI2.out.2.2.2 rfl _ 0 [] rfl HOwn.out A2 n c2 _ rfl HRa.out (by unfold maxLen; omega) (by omega) hsz2 ?_; intro A6 c6 w6 hown6 hb6; simp only [Nat.zero_add, List.nil_append] at hown6; have HO6 := Lib.hid hown6; have HB6 := Lib.hid (HA.out.trans hb6); clear hown6 hb6)
        | (at_builtin; refine wpList_append_v _ rfl (.tmp 43) (.tmp 45) _ rfl W5.heap.size 0 9 i2 _ 16 Try.underlying28 HI2.out.1 HI2.out.2.1 HI2.out.2.2.1 HI2.out.2.2.2 rfl _ n _ rfl (own_keepK HO6.out (below_alloc _ _)) _ 1 1 _ rfl (vrow_laid w6 0 9 (.string x.lab) rfl (Nat.zero_le _)) (by unfold maxLen; omega) (by omega) (by have := HB6.out.size; simp; omega) ?_; intro A7 c7 w7 hown7 hb7; have HO7 := Lib.hid hown7; have hb8 := ((HB6.out.alloc HB6.out.size _).trans hb7); have HB7 := Lib.hid hb8; have HD7 := Lib.hid (HD5.out.below hb8 HD5.out.lt); have f7 := HD7.out.soft 1; have c7' := HD7.out.cell 1; have HD8 := Lib.hid (HD7.out.put 1 (.slice A7 (n + 1) c7)); have c82 := HD8.out.cell 2; clear hown7 hb7 hb8))
      go_ret2
      have hset : Chg (fun k => k = d) w7 (w7.setCell ⟨d, 1, none⟩ (.slice A7 (n + 1) c7)) := Chg.set (S := fun k => k = d) w7 d 1 _ rfl
      have hsz5 : W0.heap.size ≤ W5.heap.size := by have := HC5.out.size; rw [HSz.out]; exact this
      have hdl := HH.out.lt
      refine HEnd.out _ A4 A7 cc4 c7 HD8.out ?_ ?_ ((HC5.out.trans (Chg.of_below (fun _ => False) HB7.out) (fun _ _ h => h.elim)).trans hset (fun _ _ h => h))
      · rw [← HSz.out]
        refine own_chg (own_keepK HO5.out HB7.out) hset (fun q hq e => ?_)
        have h1 := (HO5.out.lt q hq).1
        omega
      · rw [← HSz.out]
        refine own_chg (own_up HO7.out (fun q hq => Nat.le_trans hsz5 (HO7.out.lt q hq).1)) hset (fun q hq e => ?_)
        have h1 := (HO7.out.lt q hq).1
        omega
    · go_simp
      have HE := Lib.hid (hS.2.2.alloc hS.2.2.size (.cells #[.int .i64 x.id] 3))
      have HX := Lib.hid (below_newest hS.2.2 3 #[.int .i64 x.id])
      have HXB := Lib.hid hS.2.2.size
      try replace HO := Lib.hid (own_keepK HO.out (below_alloc _ (.cells #[.int .i64 x.id] 3)))
      have HD := Lib.hid (HH.out.below HE.out HH.out.lt)
      refine hK.out _ _ (show (fun (w' : World) => w'.cell? ⟨d, 0, none⟩ = some (.slice A n c) ∧ w'.cell? ⟨d, 2, none⟩ = some (.int .i64 x.id) ∧ Below W0.heap.size W0 w') _ from ⟨HD.out.cell 0, HD.out.cell 2, HE.out⟩) ?_
      clear hK K hS
      have hS := (show (fun (w' : World) => w'.cell? ⟨d, 0, none⟩ = some (.slice A n c) ∧ w'.cell? ⟨d, 2, none⟩ = some (.int .i64 x.id) ∧ Below W0.heap.size W0 w') _ from ⟨HD.out.cell 0, HD.out.cell 2, HE.out⟩)
      refine Turns.next 6 rfl (by kernel_rfl) (by rfl) (fun K hK => ?_)
      obtain ⟨A3, cc3, W3, hrun, hown3, hg3⟩ := run_append_v (P := Try.prog) _ W0.heap.size B 27 27 3 i1 _ 8 Try.underlying27 HI1.out.1 HI1.out.2.1 HI1.out.2.2.1 HI1.out.2.2.2 rfl _ 0 [] HO.out A n c _ (HR1.out.below hS.2.2) (by unfold maxLen; omega) (by omega) hS.2.2.size
      simp only [Nat.zero_add, List.nil_append] at hrun hown3
      have HE := Lib.hid (hS.2.2.grown hg3 hS.2.2.size (fun k hk => (HO.out.lt k hk).1))
      try replace HX := Lib.hid (HX.out.grown hg3 (by simp [Value.ownBlock]))
      refine Lib.wp_append_run_sl _ (.tmp 23) (.tmp 27) 27 rfl _ _ ?hs ?hx hrun ?_
      case hs => first | rfl | simp [Act.eval, Act.put]
      case hx => first | rfl | simp [Act.eval, Act.put]
      replace HO := Lib.hid hown3
      have HD := Lib.hid (HH.out.below HE.out HH.out.lt)
      clear hrun hown3 hg3
      refine hK.out _ _ (show (fun (w' : World) => w'.cell? ⟨d, 0, none⟩ = some (.slice A n c) ∧ w'.cell? ⟨d, 2, none⟩ = some (.int .i64 x.id) ∧ Below W0.heap.size W0 w') _ from ⟨HD.out.cell 0, HD.out.cell 2, HE.out⟩) ?_
      clear hK K hS
      have hS := (show (fun (w' : World) => w'.cell? ⟨d, 0, none⟩ = some (.slice A n c) ∧ w'.cell? ⟨d, 2, none⟩ = some (.int .i64 x.id) ∧ Below W0.heap.size W0 w') _ from ⟨HD.out.cell 0, HD.out.cell 2, HE.out⟩)
      refine Turns.next 12 rfl (by kernel_rfl) (by rfl) (fun K hK => ?_)
      obtain ⟨A4, cc4, W4, hrun, hown4, hg4⟩ := run_append_v (P := Try.prog) _ W0.heap.size W0.heap.size 27 27 3 i1 _ 8 Try.underlying27 HI1.out.1 HI1.out.2.1 HI1.out.2.2.1 HI1.out.2.2.2 rfl _ n _ HO.out _ 1 1 _ (vrow_new HX.out rfl HXB.out) (by unfold maxLen; omega) (by omega) hS.2.2.size
      have HE := Lib.hid (hS.2.2.grown hg4 hS.2.2.size (fun k hk => (HO.out.lt k hk).1))
      refine Lib.wp_append_run_sl _ (.tmp 28) (.tmp 33) 27 rfl _ _ ?hs ?hx hrun ?_
      case hs => first | rfl | simp [Act.eval, Act.put]
      case hx => first | rfl | simp [Act.eval, Act.put]
      replace HO := Lib.hid hown4
      have HD := Lib.hid (HH.out.below HE.out HH.out.lt)
      clear hrun hown4 hg4
      refine hK.out _ _ (show (fun (w' : World) => w'.cell? ⟨d, 0, none⟩ = some (.slice A n c) ∧ w'.cell? ⟨d, 2, none⟩ = some (.int .i64 x.id) ∧ Below W0.heap.size W0 w') _ from ⟨HD.out.cell 0, HD.out.cell 2, HE.out⟩) ?_
      clear hK K hS
      have hS := (show (fun (w' : World) => w'.cell? ⟨d, 0, none⟩ = some (.slice A n c) ∧ w'.cell? ⟨d, 2, none⟩ = some (.int .i64 x.id) ∧ Below W0.heap.size W0 w') _ from ⟨HD.out.cell 0, HD.out.cell 2, HE.out⟩)
      refine Turns.rest (late_done (by kernel_rfl)) ?_
      refine any_tail 13 (by rfl) (by kernel_rfl) ?_
      simp only [List.drop_succ_cons, List.drop_zero]
      clear hS
      have k0 := HD.out.cell 0
      have f0 := HD.out.soft 0
      have HD5 := Lib.hid (HD.out.put 0 (.slice A4 (n + 1) cc4))
      have hset : Chg (fun k => k = d) W4 (W4.setCell ⟨d, 0, none⟩ (.slice A4 (n + 1) cc4)) := Chg.set (S := fun k => k = d) W4 d 0 _ rfl
      have HO5 := Lib.hid (own_chg HO.out hset (fun q hq e => by
        have h1 := (HO.out.lt q hq).1
        have h2 := HH.out.lt
        omega))
      have HC5 := Lib.hid ((HC.out.trans (Chg.of_below (fun _ => False) HE.out) (fun _ _ h => h.elim)).trans hset (fun _ _ h => h))
      have HR5 := Lib.hid ((HR2.out.below HE.out).chg hset (fun k hk => by omega))
      clear hset HX HXB k2 kb
      go_upto_region 7 with (fail)
      obtain ⟨W5, hW5⟩ : ∃ W5, W4.setCell ⟨d, 0, none⟩ (.slice A4 (n + 1) cc4) = W5 := ⟨_, rfl⟩
      rw [hW5] at HD5 HO5 HC5 HR5 ⊢
      clear hW5 HO HE HD k0 f0
      have hba := below_alloc W5 (.cells #[] 9)
      have ca := (HD5.out.below hba HD5.out.lt).cell 1
      have HA := Lib.hid hba
      have HRa := Lib.hid (HR5.out.below hba)
      have HOwn := Lib.hid (own_start (Below.refl W5.heap.size W5) (Nat.le_refl _) 9 1)
      have hsz2 : W5.heap.size ≤ (W5.alloc (.cells #[] 9)).heap.size := hba.size
      clear hba
      go_wp2_with (first
        | (at_builtin; refine wpList_append_v _ rfl (.tmp 38) (.tmp 42) _ rfl W5.heap.size B 9 i2 _ 16 Try.underlying28 HI2.out.1 HI2.out.2.1 HI2.out.2.2.1 HI2.out.2.2.2 rfl _ 0 [] rfl HOwn.out A2 n c2 _ rfl HRa.out (by unfold maxLen; omega) (by omega) hsz2 ?_; intro A6 c6 w6 hown6 hb6; simp only [Nat.zero_add, List.nil_append] at hown6; have HO6 := Lib.hid hown6; have HB6 := Lib.hid (HA.out.trans hb6); clear hown6 hb6)
        | (at_builtin; refine wpList_append_v _ rfl (.tmp 43) (.tmp 45) _ rfl W5.heap.size 0 9 i2 _ 16 Try.underlying28 HI2.out.1 HI2.out.2.1 HI2.out.2.2.1 HI2.out.2.2.2 rfl _ n _ rfl (own_keepK HO6.out (below_alloc _ _)) _ 1 1 _ rfl (vrow_laid w6 0 9 (.string x.lab) rfl (Nat.zero_le _)) (by unfold maxLen; omega) (by omega) (by have := HB6.out.size; simp; omega) ?_; intro A7 c7 w7 hown7 hb7; have HO7 := Lib.hid hown7; have hb8 := ((HB6.out.alloc HB6.out.size _).trans hb7); have HB7 := Lib.hid hb8; have HD7 := Lib.hid (HD5.out.below hb8 HD5.out.lt); have f7 := HD7.out.soft 1; have c7' := HD7.out.cell 1; have HD8 := Lib.hid (HD7.out.put 1 (.slice A7 (n + 1) c7)); have c82 := HD8.out.cell 2; clear hown7 hb7 hb8))
      go_ret2
      have hset : Chg (fun k => k = d) w7 (w7.setCell ⟨d, 1, none⟩ (.slice A7 (n + 1) c7)) := Chg.set (S := fun k => k = d) w7 d 1 _ rfl
      have hsz5 : W0.heap.size ≤ W5.heap.size := by have := HC5.out.size; rw [HSz.out]; exact this
      have hdl := HH.out.lt
      refine HEnd.out _ A4 A7 cc4 c7 HD8.out ?_ ?_ ((HC5.out.trans (Chg.of_below (fun _ => False) HB7.out) (fun _ _ h => h.elim)).trans hset (fun _ _ h => h))
      · rw [← HSz.out]
        refine own_chg (own_keepK HO5.out HB7.out) hset (fun q hq e => ?_)
        have h1 := (HO5.out.lt q hq).1
        omega
      · rw [← HSz.out]
        refine own_chg (own_up HO7.out (fun q hq => Nat.le_trans hsz5 (HO7.out.lt q hq).1)) hset (fun q hq e => ?_)
        have h1 := (HO7.out.lt q hq).1
        omega
  · go_simp
    have HE := Lib.hid (hS.2.2.alloc hS.2.2.size (.cells #[.int .i64 x.id] 3))
    have HX := Lib.hid (below_newest hS.2.2 3 #[.int .i64 x.id])
    have HXB := Lib.hid hS.2.2.size
    try replace HO := Lib.hid (own_keepK HO.out (below_alloc _ (.cells #[.int .i64 x.id] 3)))
    have HD := Lib.hid (HH.out.below HE.out HH.out.lt)
    refine hK.out _ _ (show (fun (w' : World) => w'.cell? ⟨d, 0, none⟩ = some (.slice A n c) ∧ w'.cell? ⟨d, 2, none⟩ = some (.int .i64 x.id) ∧ Below W0.heap.size W0 w') _ from ⟨HD.out.cell 0, HD.out.cell 2, HE.out⟩) ?_
    clear hK K hS
    have hS := (show (fun (w' : World) => w'.cell? ⟨d, 0, none⟩ = some (.slice A n c) ∧ w'.cell? ⟨d, 2, none⟩ = some (.int .i64 x.id) ∧ Below W0.heap.size W0 w') _ from ⟨HD.out.cell 0, HD.out.cell 2, HE.out⟩)
    refine Turns.next 1 rfl (by kernel_rfl) (by rfl) (fun K hK => ?_)
    go_simp
    have HE := Lib.hid (hS.2.2.alloc hS.2.2.size (.cells #[] 3))
    have HO := Lib.hid (own_start hS.2.2 (Nat.le_refl _) 3 1)
    try replace HX := Lib.hid (HX.out.alloc (.cells #[] 3))
    have HD := Lib.hid (HH.out.below HE.out HH.out.lt)
    refine hK.out _ _ (show (fun (w' : World) => w'.cell? ⟨d, 0, none⟩ = some (.slice A n c) ∧ w'.cell? ⟨d, 2, none⟩ = some (.int .i64 x.id) ∧ Below W0.heap.size W0 w') _ from ⟨HD.out.cell 0, HD.out.cell 2, HE.out⟩) ?_
    clear hK K hS
    have hS := (show (fun (w' : World) => w'.cell? ⟨d, 0, none⟩ = some (.slice A n c) ∧ w'.cell? ⟨d, 2, none⟩ = some (.int .i64 x.id) ∧ Below W0.heap.size W0 w') _ from ⟨HD.out.cell 0, HD.out.cell 2, HE.out⟩)
    refine Turns.next 6 rfl (by kernel_rfl) (by rfl) (fun K hK => ?_)
    obtain ⟨A3, cc3, W3, hrun, hown3, hg3⟩ := run_append_v (P := Try.prog) _ W0.heap.size B 27 27 3 i1 _ 8 Try.underlying27 HI1.out.1 HI1.out.2.1 HI1.out.2.2.1 HI1.out.2.2.2 rfl _ 0 [] HO.out A n c _ (HR1.out.below hS.2.2) (by unfold maxLen; omega) (by omega) hS.2.2.size
    simp only [Nat.zero_add, List.nil_append] at hrun hown3
    have HE := Lib.hid (hS.2.2.grown hg3 hS.2.2.size (fun k hk => (HO.out.lt k hk).1))
    try replace HX := Lib.hid (HX.out.grown hg3 (by simp [Value.ownBlock]))
    refine Lib.wp_append_run_sl _ (.tmp 23) (.tmp 27) 27 rfl _ _ ?hs ?hx hrun ?_
    case hs => first | rfl | simp [Act.eval, Act.put]
    case hx => first | rfl | simp [Act.eval, Act.put]
    replace HO := Lib.hid hown3
    have HD := Lib.hid (HH.out.below HE.out HH.out.lt)
    clear hrun hown3 hg3
    refine hK.out _ _ (show (fun (w' : World) => w'.cell? ⟨d, 0, none⟩ = some (.slice A n c) ∧ w'.cell? ⟨d, 2, none⟩ = some (.int .i64 x.id) ∧ Below W0.heap.size W0 w') _ from ⟨HD.out.cell 0, HD.out.cell 2, HE.out⟩) ?_
    clear hK K hS
    have hS := (show (fun (w' : World) => w'.cell? ⟨d, 0, none⟩ = some (.slice A n c) ∧ w'.cell? ⟨d, 2, none⟩ = some (.int .i64 x.id) ∧ Below W0.heap.size W0 w') _ from ⟨HD.out.cell 0, HD.out.cell 2, HE.out⟩)
    refine Turns.next 12 rfl (by kernel_rfl) (by rfl) (fun K hK => ?_)
    obtain ⟨A4, cc4, W4, hrun, hown4, hg4⟩ := run_append_v (P := Try.prog) _ W0.heap.size W0.heap.size 27 27 3 i1 _ 8 Try.underlying27 HI1.out.1 HI1.out.2.1 HI1.out.2.2.1 HI1.out.2.2.2 rfl _ n _ HO.out _ 1 1 _ (vrow_new HX.out rfl HXB.out) (by unfold maxLen; omega) (by omega) hS.2.2.size
    have HE := Lib.hid (hS.2.2.grown hg4 hS.2.2.size (fun k hk => (HO.out.lt k hk).1))
    refine Lib.wp_append_run_sl _ (.tmp 28) (.tmp 33) 27 rfl _ _ ?hs ?hx hrun ?_
    case hs => first | rfl | simp [Act.eval, Act.put]
    case hx => first | rfl | simp [Act.eval, Act.put]
    replace HO := Lib.hid hown4
    have HD := Lib.hid (HH.out.below HE.out HH.out.lt)
    clear hrun hown4 hg4
    refine hK.out _ _ (show (fun (w' : World) => w'.cell? ⟨d, 0, none⟩ = some (.slice A n c) ∧ w'.cell? ⟨d, 2, none⟩ = some (.int .i64 x.id) ∧ Below W0.heap.size W0 w') _ from ⟨HD.out.cell 0, HD.out.cell 2, HE.out⟩) ?_
    clear hK K hS
    have hS := (show (fun (w' : World) => w'.cell? ⟨d, 0, none⟩ = some (.slice A n c) ∧ w'.cell? ⟨d, 2, none⟩ = some (.int .i64 x.id) ∧ Below W0.heap.size W0 w') _ from ⟨HD.out.cell 0, HD.out.cell 2, HE.out⟩)
    refine Turns.rest (late_done (by kernel_rfl)) ?_
    refine any_tail 13 (by rfl) (by kernel_rfl) ?_
    simp only [List.drop_succ_cons, List.drop_zero]
    clear hS
    have k0 := HD.out.cell 0
    have f0 := HD.out.soft 0
    have HD5 := Lib.hid (HD.out.put 0 (.slice A4 (n + 1) cc4))
    have hset : Chg (fun k => k = d) W4 (W4.setCell ⟨d, 0, none⟩ (.slice A4 (n + 1) cc4)) := Chg.set (S := fun k => k = d) W4 d 0 _ rfl
    have HO5 := Lib.hid (own_chg HO.out hset (fun q hq e => by
      have h1 := (HO.out.lt q hq).1
      have h2 := HH.out.lt
      omega))
    have HC5 := Lib.hid ((HC.out.trans (Chg.of_below (fun _ => False) HE.out) (fun _ _ h => h.elim)).trans hset (fun _ _ h => h))
    have HR5 := Lib.hid ((HR2.out.below HE.out).chg hset (fun k hk => by omega))
    clear hset HX HXB k2 kb
    go_upto_region 7 with (fail)
    obtain ⟨W5, hW5⟩ : ∃ W5, W4.setCell ⟨d, 0, none⟩ (.slice A4 (n + 1) cc4) = W5 := ⟨_, rfl⟩
    rw [hW5] at HD5 HO5 HC5 HR5 ⊢
    clear hW5 HO HE HD k0 f0
    have hba := below_alloc W5 (.cells #[] 9)
    have ca := (HD5.out.below hba HD5.out.lt).cell 1
    have HA := Lib.hid hba
    have HRa := Lib.hid (HR5.out.below hba)
    have HOwn := Lib.hid (own_start (Below.refl W5.heap.size W5) (Nat.le_refl _) 9 1)
    have hsz2 : W5.heap.size ≤ (W5.alloc (.cells #[] 9)).heap.size := hba.size
    clear hba
    go_wp2_with (first
      | (at_builtin; refine wpList_append_v _ rfl (.tmp 38) (.tmp 42) _ rfl W5.heap.size B 9 i2 _ 16 Try.underlying28 HI2.out.1 HI2.out.2.1 HI2.out.2.2.1 HI2.out.2.2.2 rfl _ 0 [] rfl HOwn.out A2 n c2 _ rfl HRa.out (by unfold maxLen; omega) (by omega) hsz2 ?_; intro A6 c6 w6 hown6 hb6; simp only [Nat.zero_add, List.nil_append] at hown6; have HO6 := Lib.hid hown6; have HB6 := Lib.hid (HA.out.trans hb6); clear hown6 hb6)
      | (at_builtin; refine wpList_append_v _ rfl (.tmp 43) (.tmp 45) _ rfl W5.heap.size 0 9 i2 _ 16 Try.underlying28 HI2.out.1 HI2.out.2.1 HI2.out.2.2.1 HI2.out.2.2.2 rfl _ n _ rfl (own_keepK HO6.out (below_alloc _ _)) _ 1 1 _ rfl (vrow_laid w6 0 9 (.string x.lab) rfl (Nat.zero_le _)) (by unfold maxLen; omega) (by omega) (by have := HB6.out.size; simp; omega) ?_; intro A7 c7 w7 hown7 hb7; have HO7 := Lib.hid hown7; have hb8 := ((HB6.out.alloc HB6.out.size _).trans hb7); have HB7 := Lib.hid hb8; have HD7 := Lib.hid (HD5.out.below hb8 HD5.out.lt); have f7 := HD7.out.soft 1; have c7' := HD7.out.cell 1; have HD8 := Lib.hid (HD7.out.put 1 (.slice A7 (n + 1) c7)); have c82 := HD8.out.cell 2; clear hown7 hb7 hb8))
    go_ret2
    have hset : Chg (fun k => k = d) w7 (w7.setCell ⟨d, 1, none⟩ (.slice A7 (n + 1) c7)) := Chg.set (S := fun k => k = d) w7 d 1 _ rfl
    have hsz5 : W0.heap.size ≤ W5.heap.size := by have := HC5.out.size; rw [HSz.out]; exact this
    have hdl := HH.out.lt
    refine HEnd.out _ A4 A7 cc4 c7 HD8.out ?_ ?_ ((HC5.out.trans (Chg.of_below (fun _ => False) HB7.out) (fun _ _ h => h.elim)).trans hset (fun _ _ h => h))
    · rw [← HSz.out]
      refine own_chg (own_keepK HO5.out HB7.out) hset (fun q hq e => ?_)
      have h1 := (HO5.out.lt q hq).1
      omega
    · rw [← HSz.out]
      refine own_chg (own_up HO7.out (fun q hq => Nat.le_trans hsz5 (HO7.out.lt q hq).1)) hset (fun q hq e => ?_)
      have h1 := (HO7.out.lt q hq).1
      omega
end Go.Proofs.Ytjifnnloncanpaa
