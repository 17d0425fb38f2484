/- Texts of this seat, one behind the other. -/
import Derived.Test.YtgmeakcfiaopcaaGreatBunU
/- The document's list of entries: Add. -/
namespace Go.Proofs.YtgmeakcfiaopcaaGreat
open Go.RowKit
set_option linter.unusedVariables false
set_option linter.unusedSimpArgs false

theorem rentry_info : (Tryz.prog.info? 51).map (fun i => (i.zero, i.size, i.bytes)) = some (some (.agg #[.int .i64 0, .int .i64 0, .int .i64 0]), 3, 24) := by kernel_rfl
theorem radd_bad (a b c : Int) (w : World) (A : Option Addr) (n cp : Nat) (h : ¬ CanE (a, b, c)) :
    Calls Tryz.prog 38 #[.slice A n cp, .agg #[.int .i64 a, .int .i64 b, .int .i64 c]] w fun e w' => e = .returned (.tuple #[.slice A n cp, .int .i64 1]) ∧ Below w.heap.size w w' := by
  have HB := Lib.hid (Box.start w 51 #[.int .i64 a, .int .i64 b, .int .i64 c])
  obtain ⟨c0, c1, c2, _⟩ := HB.out.cells3
  go_enter Tryz.func38, Tryz.ntmps38
  go_wp2_with (go_at_call 50; refine (rgood_no _ _ _ _ h).mono ?_; rintro e w2 ⟨rfl, hb⟩; replace HB := Lib.hid (HB.out.next hb); clear hb)
  go_ret2
  exact ⟨rfl, HB.out.below⟩
theorem radd_late (a b c : Int) (w : World) (B : Nat) (A : Option Addr) (cp : Nat) (M : List Ent) (x y z : Int) (h : TRow w B A (M.length + 1) cp (M ++ [(x, y, z)])) (h8 : M.length ≤ 8) (hc : CanE (a, b, c)) (hx : a ≤ x) :
    Calls Tryz.prog 38 #[.slice A (M.length + 1) cp, .agg #[.int .i64 a, .int .i64 b, .int .i64 c]] w fun e w' => e = .returned (.tuple #[.slice A (M.length + 1) cp, .int .i64 12]) ∧ Below w.heap.size w w' := by
  have HB := Lib.hid (Box.start w 51 #[.int .i64 a, .int .i64 b, .int .i64 c])
  obtain ⟨c0, c1, c2, _⟩ := HB.out.cells3
  have H := Lib.hid h
  have hm : (M ++ [(x, y, z)])[M.length]? = some (x, y, z) := by simp
  have HM := Lib.hid hm
  obtain ⟨m, hm'⟩ : ∃ m, M.length = m := ⟨_, rfl⟩
  rw [hm'] at H HM h8 ⊢
  have ew : IntKind.i64.wrap (((m + 1 : Nat) : Int) - 1) = (m : Int) := by
    rw [IntWalk.i64_in _ (by omega)]
    omega
  have ew2 : IntKind.i64.wrap (m : Int) = (m : Int) := IntWalk.i64_in _ (by omega)
  have hpos : decide ((0 : Int) < ((m + 1 : Nat) : Int)) = true := decide_eq_true (by omega)
  have hpos2 : (0 : Int) < (m : Int) + 1 := by omega
  have hd : decide (a ≤ x) = true := decide_eq_true hx
  have hlt : (m : Int) < ((m + 1 : Nat) : Int) := by omega
  have hlt2 : (m : Int) < (m : Int) + 1 := by omega
  clear h hm hm'
  go_enter Tryz.func38, Tryz.ntmps38
  go_upto_region 4 with (go_at_call 50; refine (rgood_yes _ _ _ _ hc).mono ?_; rintro e w2 ⟨rfl, hb⟩; replace HB := Lib.hid (HB.out.next hb); obtain ⟨c0, c1, c2, _⟩ := HB.out.cells3; have h2 := H.out.chg (Chg.of_below (fun _ => False) HB.out.below) (fun _ _ h => h); clear hb)
  obtain ⟨bl, off, rfl, q0, q1, q2⟩ := h2.at HM.out
  dsimp only at q0 q1 q2
  clear h2
  go_quiet (fail)
  go_wp2
  go_ret2
  exact ⟨rfl, below_drewN HB.out.below _⟩

theorem box_newest {w0 W : World} {t : TypeId} {cs : Array Value} (_ : Box w0 t cs W) (t' : TypeId) (cs' : Array Value) : Holds (W.alloc (.cells cs' t')) W.heap.size t' cs' := Holds.new _ _ _
theorem elem_news {W : World} {g : Nat} {t : TypeId} {a b c : Value} (h : Holds W g t #[a, b, c]) : ∀ j u, [a, b, c][j]? = some u → W.cell? ((⟨g, 0, none⟩ : Addr).add j) = some u := fun j u hj => by
  rw [Go.WideShapes.add_plain, Nat.zero_add, h.cell]
  simpa using hj
/-- Behind the document's Add of one that is taken. -/
def RAdded (B : Nat) (L : List Ent) (x : Ent) (w : World) (e : Ending) (w' : World) : Prop :=
  ∃ A' c', e = .returned (.tuple #[.slice A' (pushL L x).length c', .int .i64 0]) ∧ TRow w' B A' (pushL L x).length c' (pushL L x) ∧ Below w.heap.size w w'
set_option maxHeartbeats 2000000 in
theorem radd_any (a b c : Int) (w : World) (B : Nat) (A : Option Addr) (n cp : Nat) (L : List Ent) (h : TRow w B A n cp L) (h8 : n ≤ 8) (hB : B ≤ w.heap.size) (hc : CanE (a, b, c)) (hx : Later L (a, b, c)) :
    Calls Tryz.prog 38 #[.slice A n cp, .agg #[.int .i64 a, .int .i64 b, .int .i64 c]] w (RAdded B L (a, b, c) w) := by
  have HB := Lib.hid (Box.start w 51 #[.int .i64 a, .int .i64 b, .int .i64 c])
  obtain ⟨c0, c1, c2, _⟩ := HB.out.cells3
  have H := Lib.hid h
  have hnl := h.len
  obtain ⟨i0, hi, H0⟩ : ∃ i, Tryz.prog.info? 51 = some i ∧ i.zero = some (.agg #[.int .i64 0, .int .i64 0, .int .i64 0]) ∧ i.size = 3 ∧ i.bytes = 24 := by
    obtain ⟨i, hi, hzz⟩ := Option.map_eq_some_iff.1 rentry_info
    simp only [Prod.mk.injEq] at hzz
    exact ⟨i, hi, hzz⟩
  have HI := Lib.hid hi
  have HI0 := Lib.hid H0
  have HL := Lib.hid hnl
  have hend : ∀ (A5 : Option Addr) (c5 : Nat) (w5 : World), w5.ownsRow w.heap.size 51 3 (.slice A5 (n + 1) c5) (n + 1) (trs (L ++ [(a, b, c)])) → Below w.heap.size w w5 →
      (n < 8 → RAdded B L (a, b, c) w (.returned (.tuple #[.slice A5 (n + 1) c5, .int .i64 0])) w5) ∧ (n = 8 → ∃ g, A5 = some ⟨g, 0, none⟩ ∧ 1 < c5 ∧ RAdded B L (a, b, c) w (.returned (.tuple #[.slice (some ⟨g, 3, none⟩) 8 (c5 - 1), .int .i64 0])) w5) := fun A5 c5 w5 ho hb => by
    have ht := (TRow.of_own ho).mono hB
    refine ⟨fun hn => ?_, fun hn => ?_⟩
    · have hp : pushL L (a, b, c) = L ++ [(a, b, c)] := by unfold pushL; rw [if_neg (by omega)]
      refine ⟨A5, c5, ?_, ?_, hb⟩
      · rw [hp, List.length_append, hnl]; rfl
      · rw [hp, List.length_append, hnl]; exact ht
    · have hp : pushL L (a, b, c) = (L ++ [(a, b, c)]).tail := by
        unfold pushL
        rw [if_pos (by omega), List.tail_append_of_ne_nil (by intro e; rw [e] at hnl; simp at hnl; omega)]
      rcases own_open ho with ⟨_, h0, _⟩ | ⟨g, cap, cur, e1, _, _, hnc, _⟩
      · omega
      · simp only [Value.slice.injEq, true_and] at e1
        obtain ⟨rfl, rfl⟩ := e1
        have hl : ((L ++ [(a, b, c)]).tail).length = 8 := by rw [List.length_tail, List.length_append, hnl, hn]; rfl
        refine ⟨g, rfl, by omega, some ⟨g, 3, none⟩, c5 - 1, ?_, ?_, hb⟩
        · rw [hp, hl]
        · rw [hp, hl]
          have := ht.tail (by omega)
          rwa [hn] at this
  have HEnd := Lib.hid hend
  clear h hi H0 hend hnl
  rcases List.eq_nil_or_concat L with hL | ⟨M, x, hL⟩
  case' inl =>
    have hn0 : n = 0 := by rw [← HL.out, hL]; rfl
    have hp1 : decide ((0 : Int) < (n : Int)) = false := decide_eq_false (by omega)
    have hp2 : decide (0 < n) = false := decide_eq_false (by omega)
    have hp3 : ¬ 0 < n := by omega
    clear hn0
    go_enter Tryz.func38, Tryz.ntmps38
    go_upto_region 4 with (go_at_call 50; refine (rgood_yes _ _ _ _ hc).mono ?_; rintro e w2 ⟨rfl, hb⟩; replace HB := Lib.hid (HB.out.next hb); obtain ⟨c0, c1, c2, _⟩ := HB.out.cells3; clear hb)
    go_quiet (fail)
    go_upto_region 6 with (fail)
    clear hp1 hp2 hp3
  case' inr =>
    obtain ⟨x, y, z⟩ := x
    rw [List.concat_eq_append] at hL
    have hxa : x < a := hx (x, y, z) (by rw [hL]; simp)
    have hm : L[M.length]? = some (x, y, z) := by rw [hL]; simp
    have hnm : n = M.length + 1 := by rw [← HL.out, hL]; simp
    have HM := Lib.hid hm
    obtain ⟨m, hm'⟩ : ∃ m, M.length = m := ⟨_, rfl⟩
    rw [hm'] at HM hnm
    have ew : IntKind.i64.wrap ((n : Int) - 1) = (m : Int) := by
      rw [IntWalk.i64_in _ (by omega)]
      omega
    have hp1 : decide ((0 : Int) < (n : Int)) = true := decide_eq_true (by omega)
    have hp2 : decide (0 < n) = true := decide_eq_true (by omega)
    have hp3 : 0 < n := by omega
    have hd : decide (a ≤ x) = false := decide_eq_false (by omega)
    have hlt : (m : Int) < (n : Int) := by omega
    have hlt2 : m < n := by omega
    clear hm hm' hnm
    go_enter Tryz.func38, Tryz.ntmps38
    go_upto_region 4 with (go_at_call 50; refine (rgood_yes _ _ _ _ hc).mono ?_; rintro e w2 ⟨rfl, hb⟩; replace HB := Lib.hid (HB.out.next hb); obtain ⟨c0, c1, c2, _⟩ := HB.out.cells3; have h2 := H.out.chg (Chg.of_below (fun _ => False) HB.out.below) (fun _ _ h => h); clear hb)
    obtain ⟨bl, off, rfl, q0, q1, q2⟩ := h2.at HM.out
    dsimp only at q0 q1 q2
    clear h2
    go_quiet (fail)
    go_upto_region 6 with (fail)
    clear hp1 hp2 hp3 hd hlt hlt2 ew q0 q1 q2 hxa hL
  all_goals
    refine region_turns (fun (w' : World) => w'.cell? ⟨w.heap.size, 0, none⟩ = some (.int .i64 a) ∧ w'.cell? ⟨w.heap.size, 1, none⟩ = some (.int .i64 b) ∧ w'.cell? ⟨w.heap.size, 2, none⟩ = some (.int .i64 c) ∧ Box w 51 #[.int .i64 a, .int .i64 b, .int .i64 c] w') (fun j => decide (6 ≤ j)) (by kernel_rfl) ((HB.out.drewN (nq + 1)).cells3) (fun hS => ?_)
    refine Turns.take hS 1 _ rfl (by kernel_rfl) (by kernel_rfl) (by kernel_rfl) (by kernel_rfl) (fun _ _ _ h => h) (by rfl) (fun w' hS' => by (try dsimp only at hS'); go_split_ands; go_simp; (try with_reducible rfl)) ?_
    simp only [Act.put, List.getElem_toArray, List.getElem_cons_succ, List.getElem_cons_zero, List.setIfInBounds_toArray, List.set_cons_zero, List.set_cons_succ]
    refine Turns.take hS 3 _ rfl (by kernel_rfl) (by kernel_rfl) (by kernel_rfl) (by kernel_rfl) (fun _ _ _ h => h) (by rfl) (fun w' hS' => by (try dsimp only at hS'); go_split_ands; go_simp; (try with_reducible rfl)) ?_
    simp only [Act.put, List.getElem_toArray, List.getElem_cons_succ, List.getElem_cons_zero, List.setIfInBounds_toArray, List.set_cons_zero, List.set_cons_succ]
    refine Turns.either 0 4 rfl rfl (by kernel_rfl) (by rfl) (by rfl) (fun K hK => ?_) (fun K hK => ?_)
    · go_simp
      have HE := Lib.hid (hS.2.2.2.alloc (.cells #[] 51))
      have HO := Lib.hid (World.ownsRow_made (base := w.heap.size + 1) (e := 51) (size := 3) _ #[] 0 (Nat.succ_le_of_lt hS.2.2.2.lt) (by unfold maxLen; omega) rfl : World.ownsRow (World.alloc _ (.cells #[] 51)) _ _ _ _ _ _)
      try replace HX := Lib.hid (HX.out.alloc (.cells #[] 51))
      refine hK.out _ _ (show (fun (w' : World) => w'.cell? ⟨w.heap.size, 0, none⟩ = some (.int .i64 a) ∧ w'.cell? ⟨w.heap.size, 1, none⟩ = some (.int .i64 b) ∧ w'.cell? ⟨w.heap.size, 2, none⟩ = some (.int .i64 c) ∧ Box w 51 #[.int .i64 a, .int .i64 b, .int .i64 c] w') _ from HE.out.cells3) ?_
      clear hK K hS
      have hS := (show (fun (w' : World) => w'.cell? ⟨w.heap.size, 0, none⟩ = some (.int .i64 a) ∧ w'.cell? ⟨w.heap.size, 1, none⟩ = some (.int .i64 b) ∧ w'.cell? ⟨w.heap.size, 2, none⟩ = some (.int .i64 c) ∧ Box w 51 #[.int .i64 a, .int .i64 b, .int .i64 c] w') _ from HE.out.cells3)
      refine Turns.either 2 4 rfl rfl (by kernel_rfl) (by rfl) (by rfl) (fun K hK => ?_) (fun K hK => ?_)
      · have h2 := H.out.chg (Chg.of_below (fun _ => False) hS.2.2.2.below) (fun _ _ h => h)
        obtain ⟨A2, cc2, W2, hrun, hown2, hg2, -⟩ := run_append_tr (P := Tryz.prog) _ (w.heap.size + 1) B 93 93 51 i0 _ Tryz.underlying93 HI.out HI0.out.1 HI0.out.2.1 HI0.out.2.2 rfl _ 0 [] HO.out _ n cp L h2 (by omega) (Nat.succ_le_of_lt hS.2.2.2.lt)
        simp only [Nat.zero_add, List.nil_append] at hrun hown2
        have hC2 := Chg.of_grown (S := fun k => w.heap.size + 1 ≤ k) hg2 (fun k hk => (HO.out.lt k hk).1)
        have HE := Lib.hid (⟨hS.2.2.2.holds.chg hC2 (by omega), Below.chg hS.2.2.2.below hC2 hS.2.2.2.below.size (fun k hk => by omega)⟩ : Box w 51 #[.int .i64 a, .int .i64 b, .int .i64 c] W2)
        try replace HX := Lib.hid (HX.out.grown hg2 (by simp [Value.ownBlock]))
        refine Lib.wp_append_run_sl _ (.tmp 28) (.tmp 29) 93 rfl _ _ ?hs ?hx hrun ?_
        case hs => first | rfl | simp [Act.eval, Act.put]
        case hx => first | rfl | simp [Act.eval, Act.put]
        replace HO := Lib.hid hown2
        clear h2 hrun hown2 hg2 hC2
        refine hK.out _ _ (show (fun (w' : World) => w'.cell? ⟨w.heap.size, 0, none⟩ = some (.int .i64 a) ∧ w'.cell? ⟨w.heap.size, 1, none⟩ = some (.int .i64 b) ∧ w'.cell? ⟨w.heap.size, 2, none⟩ = some (.int .i64 c) ∧ Box w 51 #[.int .i64 a, .int .i64 b, .int .i64 c] w') _ from HE.out.cells3) ?_
        clear hK K hS
        have hS := (show (fun (w' : World) => w'.cell? ⟨w.heap.size, 0, none⟩ = some (.int .i64 a) ∧ w'.cell? ⟨w.heap.size, 1, none⟩ = some (.int .i64 b) ∧ w'.cell? ⟨w.heap.size, 2, none⟩ = some (.int .i64 c) ∧ Box w 51 #[.int .i64 a, .int .i64 b, .int .i64 c] w') _ from HE.out.cells3)
        refine Turns.next 4 rfl (by kernel_rfl) (by rfl) (fun K hK => ?_)
        go_simp
        have HE := Lib.hid (hS.2.2.2.alloc (.cells #[.int .i64 a, .int .i64 b, .int .i64 c] 51))
        have HX := Lib.hid (box_newest hS.2.2.2 51 #[.int .i64 a, .int .i64 b, .int .i64 c])
        try replace HO := Lib.hid (own_keep' HO.out (below_alloc _ (.cells #[.int .i64 a, .int .i64 b, .int .i64 c] 51)))
        refine hK.out _ _ (show (fun (w' : World) => w'.cell? ⟨w.heap.size, 0, none⟩ = some (.int .i64 a) ∧ w'.cell? ⟨w.heap.size, 1, none⟩ = some (.int .i64 b) ∧ w'.cell? ⟨w.heap.size, 2, none⟩ = some (.int .i64 c) ∧ Box w 51 #[.int .i64 a, .int .i64 b, .int .i64 c] w') _ from HE.out.cells3) ?_
        clear hK K hS
        have hS := (show (fun (w' : World) => w'.cell? ⟨w.heap.size, 0, none⟩ = some (.int .i64 a) ∧ w'.cell? ⟨w.heap.size, 1, none⟩ = some (.int .i64 b) ∧ w'.cell? ⟨w.heap.size, 2, none⟩ = some (.int .i64 c) ∧ Box w 51 #[.int .i64 a, .int .i64 b, .int .i64 c] w') _ from HE.out.cells3)
        refine Turns.next 5 rfl (by kernel_rfl) (by rfl) (fun K hK => ?_)
        obtain ⟨A5, c5, W5, hrun, hown5, hg5, -⟩ := run_append_rowK (P := Tryz.prog) _ (w.heap.size + 1) 93 93 51 i0 _ 3 24 Tryz.underlying93 HI.out HI0.out.1 HI0.out.2.1 HI0.out.2.2 rfl (by omega) _ n _ HO.out _ 1 1 _ rfl (elem_news HX.out) (by simp [Value.oneCell']) (by unfold maxLen; omega) (by omega) (Nat.succ_le_of_lt hS.2.2.2.lt)
        have hC5 := Chg.of_grown (S := fun k => w.heap.size + 1 ≤ k) hg5 (fun k hk => (HO.out.lt k hk).1)
        have HE := Lib.hid (⟨hS.2.2.2.holds.chg hC5 (by omega), Below.chg hS.2.2.2.below hC5 hS.2.2.2.below.size (fun k hk => by omega)⟩ : Box w 51 #[.int .i64 a, .int .i64 b, .int .i64 c] W5)
        refine Lib.wp_append_run_sl _ (.tmp 30) (.tmp 32) 93 rfl _ _ ?hs ?hx hrun ?_
        case hs => first | rfl | simp [Act.eval, Act.put]
        case hx => first | rfl | simp [Act.eval, Act.put]
        have HF := Lib.hid (HEnd.out A5 c5 W5 (by rw [trs_append]; exact own_up hown5 (fun q hq => Nat.le_of_succ_le (hown5.lt q hq).1)) HE.out.below)
        clear hrun hown5 hg5 hC5
        refine hK.out _ _ (show (fun (w' : World) => w'.cell? ⟨w.heap.size, 0, none⟩ = some (.int .i64 a) ∧ w'.cell? ⟨w.heap.size, 1, none⟩ = some (.int .i64 b) ∧ w'.cell? ⟨w.heap.size, 2, none⟩ = some (.int .i64 c) ∧ Box w 51 #[.int .i64 a, .int .i64 b, .int .i64 c] w') _ from HE.out.cells3) ?_
        clear hK K hS
        have hS := (show (fun (w' : World) => w'.cell? ⟨w.heap.size, 0, none⟩ = some (.int .i64 a) ∧ w'.cell? ⟨w.heap.size, 1, none⟩ = some (.int .i64 b) ∧ w'.cell? ⟨w.heap.size, 2, none⟩ = some (.int .i64 c) ∧ Box w 51 #[.int .i64 a, .int .i64 b, .int .i64 c] w') _ from HE.out.cells3)
        refine Turns.rest (late_done (by kernel_rfl)) ?_
        refine any_tail 6 (by rfl) (by kernel_rfl) ?_
        simp only [List.drop_succ_cons, List.drop_zero]
        clear hS
        clear HE HX HO HI HI0 H HEnd HB
        by_cases hn8 : n < 8
        · have e1 : decide ((8 : Int) < (n : Int) + 1) = false := decide_eq_false (by omega)
          have e2 : decide ((8 : Int) < ((n + 1 : Nat) : Int)) = false := decide_eq_false (by omega)
          have e3 : decide (8 < n + 1) = false := decide_eq_false (by omega)
          have e4 : ¬ (8 < n + 1) := by omega
          go_wp2
          go_ret2
          exact HF.out.1 hn8
        · obtain rfl : n = 8 := by omega
          obtain ⟨g5, rfl, hc5, hfin⟩ := HF.out.2 rfl
          have HFin := Lib.hid hfin
          have e1 : ¬ c5 = 1 := by omega
          have e2 : (c5 == 1) = false := by simpa using e1
          clear hfin HF
          go_wp2
          go_ret2
          exact HFin.out
      · go_simp
        have HE := Lib.hid (hS.2.2.2.alloc (.cells #[.int .i64 a, .int .i64 b, .int .i64 c] 51))
        have HX := Lib.hid (box_newest hS.2.2.2 51 #[.int .i64 a, .int .i64 b, .int .i64 c])
        try replace HO := Lib.hid (own_keep' HO.out (below_alloc _ (.cells #[.int .i64 a, .int .i64 b, .int .i64 c] 51)))
        refine hK.out _ _ (show (fun (w' : World) => w'.cell? ⟨w.heap.size, 0, none⟩ = some (.int .i64 a) ∧ w'.cell? ⟨w.heap.size, 1, none⟩ = some (.int .i64 b) ∧ w'.cell? ⟨w.heap.size, 2, none⟩ = some (.int .i64 c) ∧ Box w 51 #[.int .i64 a, .int .i64 b, .int .i64 c] w') _ from HE.out.cells3) ?_
        clear hK K hS
        have hS := (show (fun (w' : World) => w'.cell? ⟨w.heap.size, 0, none⟩ = some (.int .i64 a) ∧ w'.cell? ⟨w.heap.size, 1, none⟩ = some (.int .i64 b) ∧ w'.cell? ⟨w.heap.size, 2, none⟩ = some (.int .i64 c) ∧ Box w 51 #[.int .i64 a, .int .i64 b, .int .i64 c] w') _ from HE.out.cells3)
        refine Turns.next 2 rfl (by kernel_rfl) (by rfl) (fun K hK => ?_)
        have h2 := H.out.chg (Chg.of_below (fun _ => False) hS.2.2.2.below) (fun _ _ h => h)
        obtain ⟨A2, cc2, W2, hrun, hown2, hg2, -⟩ := run_append_tr (P := Tryz.prog) _ (w.heap.size + 1) B 93 93 51 i0 _ Tryz.underlying93 HI.out HI0.out.1 HI0.out.2.1 HI0.out.2.2 rfl _ 0 [] HO.out _ n cp L h2 (by omega) (Nat.succ_le_of_lt hS.2.2.2.lt)
        simp only [Nat.zero_add, List.nil_append] at hrun hown2
        have hC2 := Chg.of_grown (S := fun k => w.heap.size + 1 ≤ k) hg2 (fun k hk => (HO.out.lt k hk).1)
        have HE := Lib.hid (⟨hS.2.2.2.holds.chg hC2 (by omega), Below.chg hS.2.2.2.below hC2 hS.2.2.2.below.size (fun k hk => by omega)⟩ : Box w 51 #[.int .i64 a, .int .i64 b, .int .i64 c] W2)
        try replace HX := Lib.hid (HX.out.grown hg2 (by simp [Value.ownBlock]))
        refine Lib.wp_append_run_sl _ (.tmp 28) (.tmp 29) 93 rfl _ _ ?hs ?hx hrun ?_
        case hs => first | rfl | simp [Act.eval, Act.put]
        case hx => first | rfl | simp [Act.eval, Act.put]
        replace HO := Lib.hid hown2
        clear h2 hrun hown2 hg2 hC2
        refine hK.out _ _ (show (fun (w' : World) => w'.cell? ⟨w.heap.size, 0, none⟩ = some (.int .i64 a) ∧ w'.cell? ⟨w.heap.size, 1, none⟩ = some (.int .i64 b) ∧ w'.cell? ⟨w.heap.size, 2, none⟩ = some (.int .i64 c) ∧ Box w 51 #[.int .i64 a, .int .i64 b, .int .i64 c] w') _ from HE.out.cells3) ?_
        clear hK K hS
        have hS := (show (fun (w' : World) => w'.cell? ⟨w.heap.size, 0, none⟩ = some (.int .i64 a) ∧ w'.cell? ⟨w.heap.size, 1, none⟩ = some (.int .i64 b) ∧ w'.cell? ⟨w.heap.size, 2, none⟩ = some (.int .i64 c) ∧ Box w 51 #[.int .i64 a, .int .i64 b, .int .i64 c] w') _ from HE.out.cells3)
        refine Turns.next 5 rfl (by kernel_rfl) (by rfl) (fun K hK => ?_)
        obtain ⟨A5, c5, W5, hrun, hown5, hg5, -⟩ := run_append_rowK (P := Tryz.prog) _ (w.heap.size + 1) 93 93 51 i0 _ 3 24 Tryz.underlying93 HI.out HI0.out.1 HI0.out.2.1 HI0.out.2.2 rfl (by omega) _ n _ HO.out _ 1 1 _ rfl (elem_news HX.out) (by simp [Value.oneCell']) (by unfold maxLen; omega) (by omega) (Nat.succ_le_of_lt hS.2.2.2.lt)
        have hC5 := Chg.of_grown (S := fun k => w.heap.size + 1 ≤ k) hg5 (fun k hk => (HO.out.lt k hk).1)
        have HE := Lib.hid (⟨hS.2.2.2.holds.chg hC5 (by omega), Below.chg hS.2.2.2.below hC5 hS.2.2.2.below.size (fun k hk => by omega)⟩ : Box w 51 #[.int .i64 a, .int .i64 b, .int .i64 c] W5)
        refine Lib.wp_append_run_sl _ (.tmp 30) (.tmp 32) 93 rfl _ _ ?hs ?hx hrun ?_
        case hs => first | rfl | simp [Act.eval, Act.put]
        case hx => first | rfl | simp [Act.eval, Act.put]
        have HF := Lib.hid (HEnd.out A5 c5 W5 (by rw [trs_append]; exact own_up hown5 (fun q hq => Nat.le_of_succ_le (hown5.lt q hq).1)) HE.out.below)
        clear hrun hown5 hg5 hC5
        refine hK.out _ _ (show (fun (w' : World) => w'.cell? ⟨w.heap.size, 0, none⟩ = some (.int .i64 a) ∧ w'.cell? ⟨w.heap.size, 1, none⟩ = some (.int .i64 b) ∧ w'.cell? ⟨w.heap.size, 2, none⟩ = some (.int .i64 c) ∧ Box w 51 #[.int .i64 a, .int .i64 b, .int .i64 c] w') _ from HE.out.cells3) ?_
        clear hK K hS
        have hS := (show (fun (w' : World) => w'.cell? ⟨w.heap.size, 0, none⟩ = some (.int .i64 a) ∧ w'.cell? ⟨w.heap.size, 1, none⟩ = some (.int .i64 b) ∧ w'.cell? ⟨w.heap.size, 2, none⟩ = some (.int .i64 c) ∧ Box w 51 #[.int .i64 a, .int .i64 b, .int .i64 c] w') _ from HE.out.cells3)
        refine Turns.rest (late_done (by kernel_rfl)) ?_
        refine any_tail 6 (by rfl) (by kernel_rfl) ?_
        simp only [List.drop_succ_cons, List.drop_zero]
        clear hS
        clear HE HX HO HI HI0 H HEnd HB
        by_cases hn8 : n < 8
        · have e1 : decide ((8 : Int) < (n : Int) + 1) = false := decide_eq_false (by omega)
          have e2 : decide ((8 : Int) < ((n + 1 : Nat) : Int)) = false := decide_eq_false (by omega)
          have e3 : decide (8 < n + 1) = false := decide_eq_false (by omega)
          have e4 : ¬ (8 < n + 1) := by omega
          go_wp2
          go_ret2
          exact HF.out.1 hn8
        · obtain rfl : n = 8 := by omega
          obtain ⟨g5, rfl, hc5, hfin⟩ := HF.out.2 rfl
          have HFin := Lib.hid hfin
          have e1 : ¬ c5 = 1 := by omega
          have e2 : (c5 == 1) = false := by simpa using e1
          clear hfin HF
          go_wp2
          go_ret2
          exact HFin.out
    · go_simp
      have HE := Lib.hid (hS.2.2.2.alloc (.cells #[.int .i64 a, .int .i64 b, .int .i64 c] 51))
      have HX := Lib.hid (box_newest hS.2.2.2 51 #[.int .i64 a, .int .i64 b, .int .i64 c])
      try replace HO := Lib.hid (own_keep' HO.out (below_alloc _ (.cells #[.int .i64 a, .int .i64 b, .int .i64 c] 51)))
      refine hK.out _ _ (show (fun (w' : World) => w'.cell? ⟨w.heap.size, 0, none⟩ = some (.int .i64 a) ∧ w'.cell? ⟨w.heap.size, 1, none⟩ = some (.int .i64 b) ∧ w'.cell? ⟨w.heap.size, 2, none⟩ = some (.int .i64 c) ∧ Box w 51 #[.int .i64 a, .int .i64 b, .int .i64 c] w') _ from HE.out.cells3) ?_
      clear hK K hS
      have hS := (show (fun (w' : World) => w'.cell? ⟨w.heap.size, 0, none⟩ = some (.int .i64 a) ∧ w'.cell? ⟨w.heap.size, 1, none⟩ = some (.int .i64 b) ∧ w'.cell? ⟨w.heap.size, 2, none⟩ = some (.int .i64 c) ∧ Box w 51 #[.int .i64 a, .int .i64 b, .int .i64 c] w') _ from HE.out.cells3)
      refine Turns.next 0 rfl (by kernel_rfl) (by rfl) (fun K hK => ?_)
      go_simp
      have HE := Lib.hid (hS.2.2.2.alloc (.cells #[] 51))
      have HO := Lib.hid (World.ownsRow_made (base := w.heap.size + 1) (e := 51) (size := 3) _ #[] 0 (Nat.succ_le_of_lt hS.2.2.2.lt) (by unfold maxLen; omega) rfl : World.ownsRow (World.alloc _ (.cells #[] 51)) _ _ _ _ _ _)
      try replace HX := Lib.hid (HX.out.alloc (.cells #[] 51))
      refine hK.out _ _ (show (fun (w' : World) => w'.cell? ⟨w.heap.size, 0, none⟩ = some (.int .i64 a) ∧ w'.cell? ⟨w.heap.size, 1, none⟩ = some (.int .i64 b) ∧ w'.cell? ⟨w.heap.size, 2, none⟩ = some (.int .i64 c) ∧ Box w 51 #[.int .i64 a, .int .i64 b, .int .i64 c] w') _ from HE.out.cells3) ?_
      clear hK K hS
      have hS := (show (fun (w' : World) => w'.cell? ⟨w.heap.size, 0, none⟩ = some (.int .i64 a) ∧ w'.cell? ⟨w.heap.size, 1, none⟩ = some (.int .i64 b) ∧ w'.cell? ⟨w.heap.size, 2, none⟩ = some (.int .i64 c) ∧ Box w 51 #[.int .i64 a, .int .i64 b, .int .i64 c] w') _ from HE.out.cells3)
      refine Turns.next 2 rfl (by kernel_rfl) (by rfl) (fun K hK => ?_)
      have h2 := H.out.chg (Chg.of_below (fun _ => False) hS.2.2.2.below) (fun _ _ h => h)
      obtain ⟨A2, cc2, W2, hrun, hown2, hg2, -⟩ := run_append_tr (P := Tryz.prog) _ (w.heap.size + 1) B 93 93 51 i0 _ Tryz.underlying93 HI.out HI0.out.1 HI0.out.2.1 HI0.out.2.2 rfl _ 0 [] HO.out _ n cp L h2 (by omega) (Nat.succ_le_of_lt hS.2.2.2.lt)
      simp only [Nat.zero_add, List.nil_append] at hrun hown2
      have hC2 := Chg.of_grown (S := fun k => w.heap.size + 1 ≤ k) hg2 (fun k hk => (HO.out.lt k hk).1)
      have HE := Lib.hid (⟨hS.2.2.2.holds.chg hC2 (by omega), Below.chg hS.2.2.2.below hC2 hS.2.2.2.below.size (fun k hk => by omega)⟩ : Box w 51 #[.int .i64 a, .int .i64 b, .int .i64 c] W2)
      try replace HX := Lib.hid (HX.out.grown hg2 (by simp [Value.ownBlock]))
      refine Lib.wp_append_run_sl _ (.tmp 28) (.tmp 29) 93 rfl _ _ ?hs ?hx hrun ?_
      case hs => first | rfl | simp [Act.eval, Act.put]
      case hx => first | rfl | simp [Act.eval, Act.put]
      replace HO := Lib.hid hown2
      clear h2 hrun hown2 hg2 hC2
      refine hK.out _ _ (show (fun (w' : World) => w'.cell? ⟨w.heap.size, 0, none⟩ = some (.int .i64 a) ∧ w'.cell? ⟨w.heap.size, 1, none⟩ = some (.int .i64 b) ∧ w'.cell? ⟨w.heap.size, 2, none⟩ = some (.int .i64 c) ∧ Box w 51 #[.int .i64 a, .int .i64 b, .int .i64 c] w') _ from HE.out.cells3) ?_
      clear hK K hS
      have hS := (show (fun (w' : World) => w'.cell? ⟨w.heap.size, 0, none⟩ = some (.int .i64 a) ∧ w'.cell? ⟨w.heap.size, 1, none⟩ = some (.int .i64 b) ∧ w'.cell? ⟨w.heap.size, 2, none⟩ = some (.int .i64 c) ∧ Box w 51 #[.int .i64 a, .int .i64 b, .int .i64 c] w') _ from HE.out.cells3)
      refine Turns.next 5 rfl (by kernel_rfl) (by rfl) (fun K hK => ?_)
      obtain ⟨A5, c5, W5, hrun, hown5, hg5, -⟩ := run_append_rowK (P := Tryz.prog) _ (w.heap.size + 1) 93 93 51 i0 _ 3 24 Tryz.underlying93 HI.out HI0.out.1 HI0.out.2.1 HI0.out.2.2 rfl (by omega) _ n _ HO.out _ 1 1 _ rfl (elem_news HX.out) (by simp [Value.oneCell']) (by unfold maxLen; omega) (by omega) (Nat.succ_le_of_lt hS.2.2.2.lt)
      have hC5 := Chg.of_grown (S := fun k => w.heap.size + 1 ≤ k) hg5 (fun k hk => (HO.out.lt k hk).1)
      have HE := Lib.hid (⟨hS.2.2.2.holds.chg hC5 (by omega), Below.chg hS.2.2.2.below hC5 hS.2.2.2.below.size (fun k hk => by omega)⟩ : Box w 51 #[.int .i64 a, .int .i64 b, .int .i64 c] W5)
      refine Lib.wp_append_run_sl _ (.tmp 30) (.tmp 32) 93 rfl _ _ ?hs ?hx hrun ?_
      case hs => first | rfl | simp [Act.eval, Act.put]
      case hx => first | rfl | simp [Act.eval, Act.put]
      have HF := Lib.hid (HEnd.out A5 c5 W5 (by rw [trs_append]; exact own_up hown5 (fun q hq => Nat.le_of_succ_le (hown5.lt q hq).1)) HE.out.below)
      clear hrun hown5 hg5 hC5
      refine hK.out _ _ (show (fun (w' : World) => w'.cell? ⟨w.heap.size, 0, none⟩ = some (.int .i64 a) ∧ w'.cell? ⟨w.heap.size, 1, none⟩ = some (.int .i64 b) ∧ w'.cell? ⟨w.heap.size, 2, none⟩ = some (.int .i64 c) ∧ Box w 51 #[.int .i64 a, .int .i64 b, .int .i64 c] w') _ from HE.out.cells3) ?_
      clear hK K hS
      have hS := (show (fun (w' : World) => w'.cell? ⟨w.heap.size, 0, none⟩ = some (.int .i64 a) ∧ w'.cell? ⟨w.heap.size, 1, none⟩ = some (.int .i64 b) ∧ w'.cell? ⟨w.heap.size, 2, none⟩ = some (.int .i64 c) ∧ Box w 51 #[.int .i64 a, .int .i64 b, .int .i64 c] w') _ from HE.out.cells3)
      refine Turns.rest (late_done (by kernel_rfl)) ?_
      refine any_tail 6 (by rfl) (by kernel_rfl) ?_
      simp only [List.drop_succ_cons, List.drop_zero]
      clear hS
      clear HE HX HO HI HI0 H HEnd HB
      by_cases hn8 : n < 8
      · have e1 : decide ((8 : Int) < (n : Int) + 1) = false := decide_eq_false (by omega)
        have e2 : decide ((8 : Int) < ((n + 1 : Nat) : Int)) = false := decide_eq_false (by omega)
        have e3 : decide (8 < n + 1) = false := decide_eq_false (by omega)
        have e4 : ¬ (8 < n + 1) := by omega
        go_wp2
        go_ret2
        exact HF.out.1 hn8
      · obtain rfl : n = 8 := by omega
        obtain ⟨g5, rfl, hc5, hfin⟩ := HF.out.2 rfl
        have HFin := Lib.hid hfin
        have e1 : ¬ c5 = 1 := by omega
        have e2 : (c5 == 1) = false := by simpa using e1
        clear hfin HF
        go_wp2
        go_ret2
        exact HFin.out
end Go.Proofs.YtgmeakcfiaopcaaGreat

/- The table and the document's list of entries, side by side: what an Add does to both. -/
namespace Go.Proofs.YtgmeakcfiaopcaaGreat
open Go.RowKit
set_option linter.unusedVariables false
set_option linter.unusedSimpArgs false

/-- What becomes of the entries, and which error is told. -/
def Step (L : List Ent) (e : Ent) (M : List Ent) (v : Int) : Prop := (¬ CanE e ∧ M = L ∧ v = 1) ∨ (CanE e ∧ ¬ Later L e ∧ M = L ∧ v = 12) ∨ (CanE e ∧ Later L e ∧ M = pushL L e ∧ v = 0)
theorem step_is (L : List Ent) (e : Ent) : ∃ M v, Step L e M v := by
  by_cases hc : CanE e
  · by_cases hl : Later L e
    · exact ⟨_, _, .inr (.inr ⟨hc, hl, rfl, rfl⟩)⟩
    · exact ⟨_, _, .inr (.inl ⟨hc, hl, rfl, rfl⟩)⟩
  · exact ⟨_, _, .inl ⟨hc, rfl, rfl⟩⟩
theorem add_step (a b c : Int) (w : World) (g o : Nat) (t : TypeId) (pre post : List Value) (L M : List Ent) (v : Int) (h : Tb w g o t pre post L) (hs : Step L (a, b, c) M v) :
    Calls Tryz.prog 62 #[.pointer (some ⟨g, o, none⟩), .agg #[.int .i64 a, .int .i64 b, .int .i64 c]] w fun e w' => e = .returned (.int .i64 v) ∧ Tb w' g o t pre post M ∧ Chg (fun k => k = g) w w' := by
  rcases hs with ⟨hc, rfl, rfl⟩ | ⟨hc, hl, rfl, rfl⟩ | ⟨hc, hl, rfl, rfl⟩
  · exact (add_bad a b c w _ hc).mono fun e w' ⟨he, hb⟩ => ⟨he, h.below hb, Chg.of_below _ hb⟩
  · obtain ⟨P, x, y, z, rfl, hx⟩ := not_later hl
    exact (add_late a b c w g o t pre post P x y z h hc hx).mono fun e w' ⟨he, hb⟩ => ⟨he, h.below hb, Chg.of_below _ hb⟩
  · exact (add_any a b c w g o t pre post L h hc hl).mono fun e w' ⟨he, ht, hcg⟩ => ⟨he, ht, hcg⟩
theorem radd_step (a b c : Int) (w : World) (B : Nat) (A : Option Addr) (cp : Nat) (L M : List Ent) (v : Int) (h : TRow w B A L.length cp L) (h8 : L.length ≤ 8) (hB : B ≤ w.heap.size) (hs : Step L (a, b, c) M v) :
    Calls Tryz.prog 38 #[.slice A L.length cp, .agg #[.int .i64 a, .int .i64 b, .int .i64 c]] w fun e w' => ∃ A' c', e = .returned (.tuple #[.slice A' M.length c', .int .i64 v]) ∧ TRow w' B A' M.length c' M ∧ Below w.heap.size w w' := by
  rcases hs with ⟨hc, rfl, rfl⟩ | ⟨hc, hl, rfl, rfl⟩ | ⟨hc, hl, rfl, rfl⟩
  · exact (radd_bad a b c w A _ cp hc).mono fun e w' ⟨he, hb⟩ => ⟨A, cp, he, h.below hb, hb⟩
  · obtain ⟨P, x, y, z, rfl, hx⟩ := not_later hl
    have hn : (P ++ [(x, y, z)]).length = P.length + 1 := by simp
    rw [hn] at h h8 ⊢
    exact (radd_late a b c w B A cp P x y z h (by omega) hc hx).mono fun e w' ⟨he, hb⟩ => ⟨A, cp, he, h.below hb, hb⟩
  · exact radd_any a b c w B A _ cp L h h8 hB hc hl
theorem step_le {L M : List Ent} {e : Ent} {v : Int} (h : Step L e M v) (h8 : L.length ≤ 8) : M.length ≤ 8 := by
  rcases h with ⟨_, rfl, _⟩ | ⟨_, _, rfl, _⟩ | ⟨_, _, rfl, _⟩
  · exact h8
  · exact h8
  · exact pushL_len h8 e
/-- The table at block z, and the document's list, made behind it. -/
structure TD (w0 : World) (z : Nat) (L : List Ent) (A : Option Addr) (c : Nat) (w : World) : Prop where
  tab : Tb w z 0 85 [] [] L
  doc : TRow w (z + 1) A L.length c L
  below : Below w0.heap.size w0 w
  old : w0.heap.size ≤ z
section
variable {w0 w w' : World} {z : Nat} {L M : List Ent} {A : Option Addr} {c : Nat}
theorem TD.onto (h : TD w0 z L A c w) (hb : Below w.heap.size w w') : TD w0 z L A c w' := ⟨h.tab.below hb, h.doc.below hb, h.below.trans (hb.mono h.below.size), h.old⟩
theorem TD.clear (h : TD w0 z L A c w) (ht : Tb w' z 0 85 [] [] []) (hc : Chg (fun k => k = z) w w') : TD w0 z [] none 0 w' := ⟨ht, trow_none _ _, tb_below h.tab h.below hc h.old, h.old⟩
end
end Go.Proofs.YtgmeakcfiaopcaaGreat

