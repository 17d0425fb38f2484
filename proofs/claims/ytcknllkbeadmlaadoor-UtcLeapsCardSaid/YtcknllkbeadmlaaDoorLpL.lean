/- Package leap: Make, whole. -/
import Derived.Test.YtcknllkbeadmlaaDoorLpK
namespace Go.Proofs.YtcknllkbeadmlaaDoor
open Go.RowKit
set_option linter.unusedVariables false
set_option linter.unusedSimpArgs false

def DayR (n : Int) : Prop := -719162 ≤ n ∧ n ≤ 2932896
theorem not_fine {st ah en : Int} (h : ¬ FineR st ah en) : (¬ (-719162 ≤ st ∧ st ≤ 2932896)) ∨ ((-719162 ≤ st ∧ st ≤ 2932896) ∧ ¬ (-719162 ≤ en ∧ en ≤ 2932896)) ∨ ((-719162 ≤ st ∧ st ≤ 2932896) ∧ (-719162 ≤ en ∧ en ≤ 2932896) ∧ en ≤ st) ∨
    ((-719162 ≤ st ∧ st ≤ 2932896) ∧ (-719162 ≤ en ∧ en ≤ 2932896) ∧ ¬ en ≤ st ∧ ah < 0) ∨ ((-719162 ≤ st ∧ st ≤ 2932896) ∧ (-719162 ≤ en ∧ en ≤ 2932896) ∧ ¬ en ≤ st ∧ ¬ ah < 0 ∧ 99 < ah) := by
  refine Classical.byContradiction fun k => h ?_
  have k1 : -719162 ≤ st ∧ st ≤ 2932896 := Classical.byContradiction fun n => k (.inl n)
  have k2 : -719162 ≤ en ∧ en ≤ 2932896 := Classical.byContradiction fun n => k (.inr (.inl ⟨k1, n⟩))
  have k3 : ¬ en ≤ st := fun n => k (.inr (.inr (.inl ⟨k1, k2, n⟩)))
  have k4 : ¬ ah < 0 := fun n => k (.inr (.inr (.inr (.inl ⟨k1, k2, k3, n⟩))))
  have k5 : ¬ 99 < ah := fun n => k (.inr (.inr (.inr (.inr ⟨k1, k2, k3, k4, n⟩))))
  exact ⟨k1.1, k1.2, k2.1, k2.2, by omega, by omega, by omega⟩
/-- Behind Make. -/
def MakePost (st ah en : Int) (L : List (Int × Int)) (w : World) (e : Ending) (w' : World) : Prop :=
  ((faultT st ah en L = 0 ∧ ∃ q, e = .returned (.tuple #[.pointer (some ⟨q, 0, none⟩), .int .i64 0]) ∧ Tl w' w.heap.size q ⟨st, ah, en, L⟩) ∨ (¬ faultT st ah en L = 0 ∧ e = .returned (.tuple #[.pointer none, .int .i64 (faultT st ah en L)]))) ∧ Below w.heap.size w w'
theorem make_bad (w : World) (st ah en : Int) (A : Option Addr) (n c : Nat) (L : List (Int × Int)) (h : ¬ FineR st ah en) :
    Calls Tryd.prog 26 #[.int .i64 st, .int .i64 ah, .int .i64 en, .slice A n c] w (MakePost st ah en L w) := by
  have hf : faultT st ah en L = 1 := by unfold faultT; rw [if_pos h]
  unfold MakePost
  rw [hf]
  clear hf
  rcases not_fine h with k | ⟨k1, k⟩ | ⟨k1, k2, k⟩ | ⟨k1, k2, k3, k⟩ | ⟨k1, k2, k3, k4, k⟩
  all_goals
    try have d1 := decide_eq_true k1
    try have d2 := decide_eq_true k2
    try have d3 := decide_eq_false k3
    try have d4 := decide_eq_false k4
    first | have d5 := decide_eq_false k | have d5 := decide_eq_true k
    clear h
    try clear k1
    try clear k2
    try clear k3
    try clear k4
    clear k
    go_enter Tryd.func26, Tryd.ntmps26
    go_wp2_with (go_at_call 47; refine (isday_any _ _).mono ?_; rintro e w1 ⟨rfl, hw1⟩; replace hw1 := hw1.symm; subst hw1)
    go_ret2
    exact ⟨.inr ⟨by decide, rfl⟩, Below.refl _ _⟩
theorem Tl.age {w w' : World} {B q : Nat} {T : TB} (h : Tl w B q T) (hx : Below w.heap.size w w') : ∃ A c, w'.cell? ⟨q, 3, none⟩ = some (.slice A T.lp.length c) ∧ ∀ z, (Value.slice A T.lp.length c).ownBlock = some z → z < w.heap.size := by
  obtain ⟨_, A, c, hH, hO⟩ := h
  exact ⟨A, c, (hH.below hx hH.lt).cell 3, fun z hz => (hO.lt z hz).2⟩
theorem make_step (w : World) (st ah en : Int) (A : Option Addr) (n c : Nat) (L : List (Int × Int)) (h : FineR st ah en) (hr : PRow w A n c L) (ho : ¬ Ones L) :
    Calls Tryd.prog 26 #[.int .i64 st, .int .i64 ah, .int .i64 en, .slice A n c] w (MakePost st ah en L w) := by
  have hf : faultT st ah en L = 1 := by unfold faultT; rw [if_neg (not_not_intro h), if_pos ho]
  unfold MakePost
  rw [hf]
  have d1 := decide_eq_true (And.intro h.s1 h.s2)
  have d2 := decide_eq_true (And.intro h.e1 h.e2)
  have d3 : decide (en ≤ st) = false := decide_eq_false (by have := h.lt; omega)
  have d4 : decide (ah < 0) = false := decide_eq_false (by have := h.a1; omega)
  have d5 : decide (99 < ah) = false := decide_eq_false (by have := h.a2; omega)
  have HC := Lib.hid (contains_any w A n c L hr)
  have HO := Lib.hid ho
  clear hf h hr ho
  go_enter Tryd.func26, Tryd.ntmps26
  go_wp2_with (first
    | (go_at_call 47; refine (isday_any _ _).mono ?_; rintro e w1 ⟨rfl, hw1⟩; replace hw1 := hw1.symm; subst hw1)
    | (go_at_call 48; refine HC.out.mono ?_; intro e w2 hp; obtain ⟨rfl, hb2⟩ : e = .returned (.bool true) ∧ Below w.heap.size w w2 := ⟨hp.1.elim (fun h => absurd h.1 HO.out) (fun h => h.2), hp.2⟩; clear hp))
  go_ret2
  exact ⟨.inr ⟨by decide, rfl⟩, hb2⟩
theorem make_full (w : World) (st ah en : Int) (A : Option Addr) (n c : Nat) (L : List (Int × Int)) (h : FineR st ah en) (hr : PRow w A n c L) (ho : Ones L) (h64 : 64 < L.length) :
    Calls Tryd.prog 26 #[.int .i64 st, .int .i64 ah, .int .i64 en, .slice A n c] w (MakePost st ah en L w) := by
  have hf : faultT st ah en L = 6 := by unfold faultT; rw [if_neg (not_not_intro h), if_neg (not_not_intro ho), if_pos h64]
  unfold MakePost
  rw [hf]
  have d1 := decide_eq_true (And.intro h.s1 h.s2)
  have d2 := decide_eq_true (And.intro h.e1 h.e2)
  have d3 : decide (en ≤ st) = false := decide_eq_false (by have := h.lt; omega)
  have d4 : decide (ah < 0) = false := decide_eq_false (by have := h.a1; omega)
  have d5 : decide (99 < ah) = false := decide_eq_false (by have := h.a2; omega)
  have e1 : (64 : Int) < (n : Int) := by have := hr.len; omega
  have e2 : 64 < n := by omega
  have e3 : decide ((64 : Int) < (n : Int)) = true := decide_eq_true e1
  have e4 : decide (64 < n) = true := decide_eq_true e2
  have HC := Lib.hid (contains_any w A n c L hr)
  have HO := Lib.hid ho
  clear hf h hr ho h64
  go_enter Tryd.func26, Tryd.ntmps26
  go_wp2_with (first
    | (go_at_call 47; refine (isday_any _ _).mono ?_; rintro e w1 ⟨rfl, hw1⟩; replace hw1 := hw1.symm; subst hw1)
    | (go_at_call 48; refine HC.out.mono ?_; intro e w2 hp; obtain ⟨rfl, hb2⟩ : e = .returned (.bool false) ∧ Below w.heap.size w w2 := ⟨hp.1.elim (fun h => h.2) (fun h => absurd HO.out h.1), hp.2⟩; clear hp))
  go_ret2
  exact ⟨.inr ⟨by decide, rfl⟩, hb2⟩
set_option maxRecDepth 100000 in
set_option maxHeartbeats 4000000 in
theorem make_rest (w : World) (st ah en : Int) (A : Option Addr) (n c : Nat) (L : List (Int × Int)) (h : FineR st ah en) (hr : PRow w A n c L) (ho : Ones L) (h64 : ¬ 64 < L.length) :
    Calls Tryd.prog 26 #[.int .i64 st, .int .i64 ah, .int .i64 en, .slice A n c] w (MakePost st ah en L w) := by
  have hf : faultT st ah en L = 0 ∨ faultT st ah en L = 12 := by
    unfold faultT
    rw [if_neg (not_not_intro h), if_neg (not_not_intro ho), if_neg h64]
    by_cases k : OrdL st en L
    · exact .inl (if_neg (not_not_intro k))
    · exact .inr (if_pos k)
  have hf0 : faultT st ah en L = 0 ↔ OrdL st en L := by
    unfold faultT
    rw [if_neg (not_not_intro h), if_neg (not_not_intro ho), if_neg h64]
    by_cases k : OrdL st en L
    · rw [if_neg (not_not_intro k)]
      exact ⟨fun _ => k, fun _ => rfl⟩
    · rw [if_pos k]
      exact ⟨fun h => (by cases h), fun h => absurd h k⟩
  have HF := Lib.hid hf
  have HF0 := Lib.hid hf0
  have d1 := decide_eq_true (And.intro h.s1 h.s2)
  have d2 := decide_eq_true (And.intro h.e1 h.e2)
  have d3 : decide (en ≤ st) = false := decide_eq_false (by have := h.lt; omega)
  have d4 : decide (ah < 0) = false := decide_eq_false (by have := h.a1; omega)
  have d5 : decide (99 < ah) = false := decide_eq_false (by have := h.a2; omega)
  have hnl := hr.len
  have e1 : decide ((64 : Int) < (n : Int)) = false := decide_eq_false (by omega)
  have e2 : ¬ 64 < n := by omega
  have e4 : decide (64 < n) = false := decide_eq_false e2
  have HC := Lib.hid (contains_any w A n c L hr)
  have HO := Lib.hid ho
  have HR := Lib.hid hr
  have hcap := hr.cap_le
  have hmax := hr.max
  unfold maxLen at hmax
  obtain ⟨F, hF⟩ : ∃ F, faultT st ah en L = F := ⟨_, rfl⟩
  unfold MakePost
  rw [hF] at HF HF0 ⊢
  clear hf hf0 h hr ho h64 hF
  go_enter Tryd.func26, Tryd.ntmps26
  go_wp2_with (first
    | (go_at_call 47; refine (isday_any _ _).mono ?_; rintro e w1 ⟨rfl, hw1⟩; replace hw1 := hw1.symm; subst hw1)
    | (go_at_call 48; refine HC.out.mono ?_; intro e w2 hp; obtain ⟨rfl, hb2⟩ : e = .returned (.bool false) ∧ Below w.heap.size w w2 := ⟨hp.1.elim (fun h => h.2) (fun h => absurd HO.out h.1), hp.2⟩; clear hp))
  have HT0 := Lib.hid (show Tl (w2.alloc (.cells #[.int .i64 st, .int .i64 ah, .int .i64 en, .slice none 0 0] 90)) w.heap.size w2.heap.size ⟨st, ah, en, []⟩ from ⟨hb2.size, none, 0, Holds.new w2 _ _, World.ownsRow_nil _ _ _ _⟩)
  have HB0 := Lib.hid (hb2.trans ((below_alloc w2 (.cells #[.int .i64 st, .int .i64 ah, .int .i64 en, .slice none 0 0] 90)).mono hb2.size))
  obtain ⟨q, hq⟩ : ∃ q, w2.heap.size = q := ⟨_, rfl⟩
  simp only [hq] at HT0 ⊢
  clear hq hb2 d1 d2 d3 d4 d5
  go_loopw [46] (fun i wr => ∃ k : Nat, k ≤ n ∧ i = .int .i64 (k : Int) ∧ OrdL st en (L.take k) ∧ Tl wr w.heap.size q ⟨st, ah, en, L.take k⟩ ∧ Below w.heap.size w wr) (fun i _ => n - (intOf i).toNat)
  case atStart => exact ⟨0, Nat.zero_le _, rfl, by rw [List.take_zero]; exact ord_nil st en, by rw [List.take_zero]; exact HT0.out, HB0.out⟩
  case round =>
    clear HT0 HB0
    obtain ⟨k, hk, rfl, ho, ht, hb⟩ := hrel
    by_cases hlt : k < n
    · obtain ⟨e, he⟩ : ∃ x, L[k]? = some x := ⟨_, List.getElem?_eq_getElem (by omega)⟩
      have hnext : L.take (k + 1) = L.take k ++ [e] := by
        obtain ⟨hk', e'⟩ := List.getElem?_eq_some_iff.1 he
        rw [List.take_succ_eq_append_getElem hk', e']
      obtain ⟨x, y⟩ := e
      obtain ⟨b, off, rfl, hbl, q0, q1⟩ := (HR.out.below hb).at he
      have hsn := ord_snoc ho x y
      rw [← hnext] at hsn
      have hltI : (k : Int) < (n : Int) := by omega
      have ew := IntWalk.i64_in ((k : Int) + 1) (by omega)
      have hlen : (L.take k).length = k := by rw [List.length_take]; omega
      have HB := Lib.hid hb
      have HSN := Lib.hid hsn
      have HNX := Lib.hid hnext
      have HX := Lib.hid (Box.start wr 63 #[.int .i64 x, .int .i64 y])
      have x0 := HX.out.holds.cell 0
      have x1 := HX.out.holds.cell 1
      have HT := Lib.hid (ht.below (below_alloc wr (.cells #[.int .i64 x, .int .i64 y] 63)))
      have HTK := Lib.hid (takes_any _ _ q ⟨st, ah, en, L.take k⟩ x HT.out (by dsimp only; omega))
      have HAG := Lib.hid (fun w' => ht.age (w' := w'))
      have HLen := Lib.hid hlen
      obtain ⟨M, hM⟩ : ∃ M, L.take k = M := ⟨_, rfl⟩
      simp only [hM] at HSN HNX HT HTK HLen HAG
      have HMe := Lib.hid hM
      clear he hnext hsn hb ho ht hlen hM
      cases htk : takesB st M x with
      | false =>
        rw [htk] at HTK
        have HN := Lib.hid (show F = 12 from HF.out.resolve_left (fun h => by
          have := (HSN.out.1 (ord_pre (HF0.out.1 h) (List.take_prefix _ _))).1
          rw [htk] at this
          cases this))
        clear htk
        go_wp2_with (go_at_call 50; refine HTK.out.mono ?_; rintro e w5 ⟨rfl, n5, hw5⟩; have hb5 := (show Below (wr.alloc (.cells #[.int .i64 x, .int .i64 y] 63)).heap.size (wr.alloc (.cells #[.int .i64 x, .int .i64 y] 63)) w5 by rw [hw5]; exact below_drewN (Below.refl _ _) _); have HX5 := Lib.hid (HX.out.next hb5); have HT5 := Lib.hid (HT.out.below hb5); have y0 := HX5.out.holds.cell 0; have y1 := HX5.out.holds.cell 1; clear hw5 hb5 x0 x1)
        go_ret2
        refine ⟨.inr ⟨by rw [HN.out]; decide, by rw [HN.out]; rfl⟩, HB.out.trans (HX5.out.below.mono HB.out.size)⟩
      | true =>
        rw [htk] at HTK
        by_cases hxe : x < en
        · have d6 : decide (en ≤ x) = false := decide_eq_false (by omega)
          have HON := Lib.hid (HSN.out.2 ⟨htk, hxe⟩)
          clear htk hxe
          go_upto_region 13 with (go_at_call 50; refine HTK.out.mono ?_; rintro e w5 ⟨rfl, n5, hw5⟩; have hb5 := (show Below (wr.alloc (.cells #[.int .i64 x, .int .i64 y] 63)).heap.size (wr.alloc (.cells #[.int .i64 x, .int .i64 y] 63)) w5 by rw [hw5]; exact below_drewN (Below.refl _ _) _); have HX5 := Lib.hid (HX.out.next hb5); have HT5 := Lib.hid (HT.out.below hb5); have y0 := HX5.out.holds.cell 0; have y1 := HX5.out.holds.cell 1; clear hw5 hb5 x0 x1)
          obtain ⟨b0, hb0⟩ : ∃ b0, wr.heap.size = b0 := ⟨_, rfl⟩
          obtain ⟨Ag, cg, hag1, hag2⟩ := HAG.out w5.drew (HX5.out.below.drew)
          simp only [hb0] at hag2 y0 y1 ⊢
          have HHL := Lib.hid (show Holds w5.drew b0 63 #[.int .i64 x, .int .i64 y] by rw [← hb0]; exact HX5.out.holds)
          have HB5 := Lib.hid (show Below w.heap.size w w5.drew from (HB.out.trans (HX5.out.below.mono HB.out.size)).drew)
          have HT6 := Lib.hid (HT5.out.below (Below.refl w5.heap.size w5).drew)
          have HAG2 := Lib.hid hag2
          have HML := Lib.hid (show M.length ≤ 1000 by rw [HLen.out]; omega)
          have HS5 := Lib.hid (show w5.drew.cell? ⟨q, 3, none⟩ = some (.slice Ag M.length cg) ∧ w5.drew.cell? ⟨b0, 0, none⟩ = some (.int .i64 x) ∧ w5.drew.cell? ⟨b0, 1, none⟩ = some (.int .i64 y) from ⟨hag1, HHL.out.cell 0, HHL.out.cell 1⟩)
          clear hb0 hag1 hag2 y0 y1 HTK HX HX5 HAG HT HT5 q0 q1 hbl
          refine region_turns (fun (w' : World) => w'.cell? ⟨q, 3, none⟩ = some (.slice Ag M.length cg) ∧ w'.cell? ⟨b0, 0, none⟩ = some (.int .i64 x) ∧ w'.cell? ⟨b0, 1, none⟩ = some (.int .i64 y)) (fun j => decide (8 ≤ j)) (by kernel_rfl) (HS5.out) (fun hS => ?_)
          refine Turns.take hS 0 _ rfl (by kernel_rfl) (by kernel_rfl) (by kernel_rfl) (by kernel_rfl) (fun _ _ _ h => h) (by rfl) (fun w' hS' => by (try dsimp only at hS'); go_split_ands; go_simp; (try with_reducible rfl)) ?_
          simp only [Act.put, List.getElem_toArray, List.getElem_cons_succ, List.getElem_cons_zero, List.setIfInBounds_toArray, List.set_cons_zero, List.set_cons_succ]
          refine Turns.take hS 1 _ rfl (by kernel_rfl) (by kernel_rfl) (by kernel_rfl) (by kernel_rfl) (fun _ _ _ h => h) (by rfl) (fun w' hS' => by (try dsimp only at hS'); go_split_ands; go_simp; (try with_reducible rfl)) ?_
          simp only [Act.put, List.getElem_toArray, List.getElem_cons_succ, List.getElem_cons_zero, List.setIfInBounds_toArray, List.set_cons_zero, List.set_cons_succ]
          refine Turns.take hS 2 _ rfl (by kernel_rfl) (by kernel_rfl) (by kernel_rfl) (by kernel_rfl) (fun _ _ _ h => h) (by rfl) (fun w' hS' => by (try dsimp only at hS'); go_split_ands; go_simp; (try with_reducible rfl)) ?_
          simp only [Act.put, List.getElem_toArray, List.getElem_cons_succ, List.getElem_cons_zero, List.setIfInBounds_toArray, List.set_cons_zero, List.set_cons_succ]
          refine Turns.take hS 3 _ rfl (by kernel_rfl) (by kernel_rfl) (by kernel_rfl) (by kernel_rfl) (fun _ _ _ h => h) (by rfl) (fun w' hS' => by (try dsimp only at hS'); go_split_ands; go_simp; (try with_reducible rfl)) ?_
          simp only [Act.put, List.getElem_toArray, List.getElem_cons_succ, List.getElem_cons_zero, List.setIfInBounds_toArray, List.set_cons_zero, List.set_cons_succ]
          refine Turns.take hS 4 _ rfl (by kernel_rfl) (by kernel_rfl) (by kernel_rfl) (by kernel_rfl) (fun _ _ _ h => h) (by rfl) (fun w' hS' => by (try dsimp only at hS'); go_split_ands; go_simp; (try with_reducible rfl)) ?_
          simp only [Act.put, List.getElem_toArray, List.getElem_cons_succ, List.getElem_cons_zero, List.setIfInBounds_toArray, List.set_cons_zero, List.set_cons_succ]
          refine Turns.take hS 5 _ rfl (by kernel_rfl) (by kernel_rfl) (by kernel_rfl) (by kernel_rfl) (fun _ _ _ h => h) (by rfl) (fun w' hS' => by (try dsimp only at hS'); go_split_ands; go_simp; (try with_reducible rfl)) ?_
          simp only [Act.put, List.getElem_toArray, List.getElem_cons_succ, List.getElem_cons_zero, List.setIfInBounds_toArray, List.set_cons_zero, List.set_cons_succ]
          refine Turns.next 6 rfl (by kernel_rfl) (by rfl) (fun K hK => ?_)
          go_simp
          have hb6 := below_alloc w5.drew (.cells #[.int .i64 x, .int .i64 y] 63)
          have HT7 := Lib.hid (HT6.out.below hb6)
          have HN6 := Lib.hid (Holds.new w5.drew 63 #[.int .i64 x, .int .i64 y])
          have HB6 := Lib.hid (HB5.out.trans (hb6.mono HB5.out.size))
          obtain ⟨A6, c6, h6, hrest⟩ := HT7.out.push HML.out HB6.out.size HN6.out
          have he6 := ((hb6.cell (p := ⟨q, 3, none⟩) (block_lt HS5.out.1)).trans HS5.out.1).symm.trans (h6.cell 3)
          simp only [List.getElem?_toArray, List.getElem?_cons_succ, List.getElem?_cons_zero, Option.some.injEq, Value.slice.injEq, true_and] at he6
          obtain ⟨rfl, rfl⟩ := he6
          have HRest := Lib.hid hrest
          have HS6 := Lib.hid (show _ ∧ _ ∧ _ from ⟨h6.cell 3, (hb6.cell (p := ⟨b0, 0, none⟩) (block_lt HS5.out.2.1)).trans HS5.out.2.1, (hb6.cell (p := ⟨b0, 1, none⟩) (block_lt HS5.out.2.2)).trans HS5.out.2.2⟩)
          clear hrest h6 hb6
          refine hK.out _ _ (show (fun (w' : World) => w'.cell? ⟨q, 3, none⟩ = some (.slice Ag M.length cg) ∧ w'.cell? ⟨b0, 0, none⟩ = some (.int .i64 x) ∧ w'.cell? ⟨b0, 1, none⟩ = some (.int .i64 y)) _ from HS6.out) ?_
          clear hK K hS
          have hS := (show (fun (w' : World) => w'.cell? ⟨q, 3, none⟩ = some (.slice Ag M.length cg) ∧ w'.cell? ⟨b0, 0, none⟩ = some (.int .i64 x) ∧ w'.cell? ⟨b0, 1, none⟩ = some (.int .i64 y)) _ from HS6.out)
          refine Turns.next 7 rfl (by kernel_rfl) (by rfl) (fun K hK => ?_)
          obtain ⟨A7, c7, w7, hrun, hH7, ht7, hC7, hO7⟩ := HRest.out
          have hkb : ∀ o, w7.cell? ⟨b0, o, none⟩ = _ := fun o => hC7.cell (o := o) (block_lt HS6.out.2.1) (fun e => Nat.lt_irrefl _ (HAG2.out b0 e))
          have HS7 := Lib.hid (show _ ∧ _ ∧ _ from ⟨hH7.cell 3, (hkb 0).trans HS6.out.2.1, (hkb 1).trans HS6.out.2.2⟩)
          have HT8 := Lib.hid ht7
          have HB7 := Lib.hid (Below.chg HB6.out hC7 HB6.out.size (fun k hk => (hO7.lt k hk).1))
          have HG7 := Lib.hid (hH7.soft 3)
          clear ht7 hH7 hC7 hO7 hkb
          refine Lib.wp_append_run_sl _ (.tmp 65) (.tmp 67) 64 rfl _ _ ?hs ?hx hrun ?_
          case hs => first | rfl | simp [Act.eval, Act.put]
          case hx => first | rfl | simp [Act.eval, Act.put]
          clear hrun
          refine hK.out _ _ (show (fun (w' : World) => w'.cell? ⟨q, 3, none⟩ = some (.slice Ag M.length cg) ∧ w'.cell? ⟨b0, 0, none⟩ = some (.int .i64 x) ∧ w'.cell? ⟨b0, 1, none⟩ = some (.int .i64 y)) _ from HS7.out) ?_
          clear hK K hS
          have hS := (show (fun (w' : World) => w'.cell? ⟨q, 3, none⟩ = some (.slice Ag M.length cg) ∧ w'.cell? ⟨b0, 0, none⟩ = some (.int .i64 x) ∧ w'.cell? ⟨b0, 1, none⟩ = some (.int .i64 y)) _ from HS7.out)
          refine Turns.rest (late_done (by kernel_rfl)) ?_
          refine any_tail 8 (by rfl) (by kernel_rfl) ?_
          simp only [List.drop_succ_cons, List.drop_zero]
          clear hS
          have k7 := HS7.out.1
          have g7 := HG7.out
          go_wp2
          go_roundw
          case rel => exact ⟨k + 1, by omega, by go_num, HON.out, by rw [HNX.out]; exact HT8.out, HB7.out.setCell HT8.out.base _⟩
          case measure => simp [intOf]; omega
        · have d6 : decide (en ≤ x) = true := decide_eq_true (by omega)
          have HN := Lib.hid (show F = 12 from HF.out.resolve_left (fun h => hxe (HSN.out.1 (ord_pre (HF0.out.1 h) (List.take_prefix _ _))).2))
          clear htk hxe
          go_wp2_with (go_at_call 50; refine HTK.out.mono ?_; rintro e w5 ⟨rfl, n5, hw5⟩; have hb5 := (show Below (wr.alloc (.cells #[.int .i64 x, .int .i64 y] 63)).heap.size (wr.alloc (.cells #[.int .i64 x, .int .i64 y] 63)) w5 by rw [hw5]; exact below_drewN (Below.refl _ _) _); have HX5 := Lib.hid (HX.out.next hb5); have HT5 := Lib.hid (HT.out.below hb5); have y0 := HX5.out.holds.cell 0; have y1 := HX5.out.holds.cell 1; clear hw5 hb5 x0 x1)
          go_ret2
          refine ⟨.inr ⟨by rw [HN.out]; decide, by rw [HN.out]; rfl⟩, HB.out.trans (HX5.out.below.mono HB.out.size)⟩
    · have hkn : k = n := by omega
      have hall : L.take k = L := List.take_of_length_le (by omega)
      rw [hall] at ho ht
      have HT := Lib.hid ht
      have HB := Lib.hid hb
      have hF0 : F = 0 := HF0.out.2 ho
      have HF1 := Lib.hid hF0
      have hltI : decide ((k : Int) < (n : Int)) = false := decide_eq_false (by omega)
      clear ho ht hb hall hF0 hkn
      go_wp2
      go_ret2
      exact ⟨.inl ⟨HF1.out, q, rfl, HT.out⟩, HB.out⟩
theorem make_any (w : World) (st ah en : Int) (A : Option Addr) (n c : Nat) (L : List (Int × Int)) (hr : PRow w A n c L) :
    Calls Tryd.prog 26 #[.int .i64 st, .int .i64 ah, .int .i64 en, .slice A n c] w (MakePost st ah en L w) := by
  by_cases h : FineR st ah en
  · by_cases ho : Ones L
    · by_cases h64 : 64 < L.length
      · exact make_full w st ah en A n c L h hr ho h64
      · exact make_rest w st ah en A n c L h hr ho h64
    · exact make_step w st ah en A n c L h hr ho
  · exact make_bad w st ah en A n c L h
end Go.Proofs.YtcknllkbeadmlaaDoor
