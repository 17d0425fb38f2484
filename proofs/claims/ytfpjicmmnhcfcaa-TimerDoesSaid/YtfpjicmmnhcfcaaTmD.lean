/- Package timer: a row's calls. -/
import Derived.Test.YtfpjicmmnhcfcaaTmM
import Derived.Test.YtfpjicmmnhcfcaaChg
import Derived.Test.YtfpjicmmnhcfcaaTurn
import Derived.Test.YtfpjicmmnhcfcaaRowGrow
import Derived.Deep.CutBlock
namespace Go.Proofs.Ytfpjicmmnhcfcaa
open Go.RowKit

/-- A row at block g, in which these are due: its entries lie in a block of the call's own. -/
def Tm (w : World) (B g : Nat) (v : Value) (L : List (Int × Int)) : Prop :=
  B ≤ g ∧ Good L ∧ ∃ A c, v = .slice A L.length c ∧ Holds w g 26 #[v] ∧ Ents w B A L.length c L
/-- The blocks of a row. -/
def part (g : Nat) (v : Value) : Nat → Prop := fun k => k = g ∨ v.ownBlock = some k
/-- What became of a row: nothing else changed, and its blocks are those that it had, or new. -/
def Now (B g : Nat) (v : Value) (L : List (Int × Int)) (w w' : World) : Prop :=
  ∃ v', Tm w' B g v' L ∧ Chg (part g v) w w' ∧ ∀ k, part g v' k → part g v k ∨ w.heap.size ≤ k

section
variable {w w' : World} {B g : Nat} {v : Value} {L M : List (Int × Int)}
theorem Tm.lt (h : Tm w B g v L) : g < w.heap.size := by
  obtain ⟨_, _, A, c, _, hh, _⟩ := h
  exact hh.lt
theorem Tm.part_old (h : Tm w B g v L) {k : Nat} (hk : part g v k) : B ≤ k ∧ k < w.heap.size := by
  have hl := h.lt
  obtain ⟨hB, _, A, c, rfl, hh, he⟩ := h
  rcases hk with rfl | hk
  · exact ⟨hB, hl⟩
  · exact he.lt k hk
theorem Tm.chg {S : Nat → Prop} (h : Tm w B g v L) (hc : Chg S w w') (hn : ∀ k, part g v k → ¬ S k) : Tm w' B g v L := by
  obtain ⟨hB, hg, A, c, rfl, hh, he⟩ := h
  exact ⟨hB, hg, A, c, rfl, hh.chg hc (hn g (.inl rfl)), own_chg he hc (fun q hq => hn q (.inr hq))⟩
theorem Tm.below (h : Tm w B g v L) (hb : Below w.heap.size w w') : Tm w' B g v L := h.chg (Chg.of_below (fun _ => False) hb) (fun _ _ h => h)
theorem Now.of_below (h : Now B g v L w w') {u : World} (hb : Below w'.heap.size w' u) : Now B g v L w u := by
  obtain ⟨v', ht, hc, hp⟩ := h
  exact ⟨v', ht.below hb, hc.trans (Chg.of_below (fun _ => False) hb) (fun _ _ h => h.elim), hp⟩
theorem Now.after {u : World} (hb : Below w.heap.size w u) (h : Now B g v L u w') : Now B g v L w w' := by
  obtain ⟨v', ht, hc, hp⟩ := h
  exact ⟨v', ht, (Chg.of_below (part g v) hb).trans hc (fun _ _ h => h), fun k hk => (hp k hk).imp id (fun h => Nat.le_trans hb.size h)⟩
theorem Now.refl (h : Tm w B g v L) : Now B g v L w w := ⟨v, h, Chg.refl _ _, fun _ hk => .inl hk⟩
theorem Tm.own (h : Tm w B g v L) : v.ownBlock ≠ some g := by
  obtain ⟨_, _, A, c, rfl, hh, he⟩ := h
  exact hh.own_apart he (by decide)
/-- The row's slice was laid anew. -/
theorem now_put {A A' : Option Addr} {n c n' c' : Nat} (hB : B ≤ g) (hL : Good L) (hn : L.length = n') (hh : Holds w g 26 #[.slice A n c]) (hne : (Value.slice A n c).ownBlock ≠ some g) (he : Ents w' B A' n' c' L)
    (hg : w.grownBy w' (Value.slice A n c).ownBlock) (hp : ∀ k, (Value.slice A' n' c').ownBlock = some k → (Value.slice A n c).ownBlock = some k ∨ w.heap.size ≤ k) :
    Now B g (.slice A n c) L w (w'.setCell ⟨g, 0, none⟩ (.slice A' n' c')) := by
  have hh' : Holds w' g 26 #[.slice A n c] := hh.grown hg (fun e => hne e.symm)
  have hne' := hh'.own_apart he (by decide)
  subst hn
  refine ⟨.slice A' L.length c', ⟨hB, hL, A', c', rfl, hh'.put 0 _, he.kept (row := some g) (grown_set _ _ _ _) (.inr hne')⟩, ?_, fun k hk => ?_⟩
  · exact (Chg.of_grown (S := part g (.slice A n c)) hg (fun k hk => .inr hk)).trans (Chg.set w' g 0 _ (S := part g (.slice A n c)) (.inl rfl)) (fun _ _ h => h)
  · rcases hk with rfl | hk
    · exact .inl (.inl rfl)
    · exact (hp k hk).imp .inr id
end

theorem len_any (w : World) (B g : Nat) (v : Value) (L : List (Int × Int)) (h : Tm w B g v L) :
    Calls Try.prog 14 #[.pointer (some ⟨g, 0, none⟩)] w fun e w' => e = .returned (.int .i64 L.length) ∧ w = w' := by
  obtain ⟨_, _, A, c, rfl, hh, _⟩ := h
  have c0 := hh.cell 0
  clear hh
  go_enter Try.func14, Try.ntmps14
  go_wp2
  go_ret
  exact ⟨rfl, rfl⟩
theorem len_nil (w : World) : Calls Try.prog 14 #[.pointer none] w fun e w' => e = .returned (.int .i64 0) ∧ w = w' := by
  go_enter Try.func14, Try.ntmps14
  go_wp2
  go_ret
  exact ⟨rfl, rfl⟩
theorem drop_nil (w : World) (what : Int) : Calls Try.prog 10 #[.pointer none, .int .i64 what] w fun e w' => e = .returned (.bool false) ∧ Below w.heap.size w w' := by
  go_enter Try.func10, Try.ntmps10
  go_wp2
  go_ret
  exact ⟨rfl, below_alloc _ _⟩
theorem set_nil (w : World) (t what : Int) : Calls Try.prog 8 #[.pointer none, .int .i64 t, .int .i64 what] w fun e w' => e = .returned (.int .i64 2) ∧ w = w' := by
  go_enter Try.func8, Try.ntmps8
  go_wp2
  go_ret
  exact ⟨rfl, rfl⟩
theorem due_nil (w : World) (t : Int) : Calls Try.prog 12 #[.pointer none, .int .i64 t] w fun e w' => e = .returned (.slice none 0 0) ∧ w = w' := by
  go_enter Try.func12, Try.ntmps12
  go_wp2
  go_ret
  exact ⟨rfl, rfl⟩

/-- Behind Drop. -/
def Dropped (B g : Nat) (v : Value) (what : Int) (L : List (Int × Int)) (w : World) (e : Ending) (w' : World) : Prop := e = .returned (.bool (hasB what L)) ∧ Now B g v (dropL what L) w w'
set_option maxHeartbeats 1000000 in
theorem drop_any (w : World) (B g : Nat) (v : Value) (L : List (Int × Int)) (what : Int) (h : Tm w B g v L) :
    Calls Try.prog 10 #[.pointer (some ⟨g, 0, none⟩), .int .i64 what] w (Dropped B g v what L w) := by
  have hgw := h.lt
  have hown := h.own
  obtain ⟨W, hW⟩ : ∃ W, W = w.alloc (.cells #[.int .i64 what] 3) := ⟨_, rfl⟩
  have hb : Below w.heap.size w W := by rw [hW]; exact below_alloc w _
  have hT := h.below hb
  have hq : W.cell? ⟨w.heap.size, 0, none⟩ = some (.int .i64 what) := by rw [hW]; exact (Holds.new w 3 #[.int .i64 what]).cell 0
  have h16 := h.2.1.2.1
  have hnd := h.2.1.2.2.1
  have hgd := good_drop h.2.1 what
  obtain ⟨hBg, hgood, A, c, rfl, hh, he⟩ := h
  have hi := index_any W B A L.length c L w.heap.size what (he.below hb) hq
  have c0 : W.cell? ⟨g, 0, none⟩ = some (.slice A L.length c) := (hb.cell (p := ⟨g, 0, none⟩) hgw).trans (hh.cell 0)
  have hgW : g < W.heap.size := Nat.lt_of_lt_of_le hgw hb.size
  rcases found (what := what) hnd with ⟨e1, e2, e3⟩ | ⟨i, hil, e1, e2, e3⟩
  · have hD : ∀ w', Below W.heap.size W w' → Dropped B g (.slice A L.length c) what L w (.returned (.bool false)) w' := fun w' hb' =>
      ⟨by rw [e3], by rw [e2]; exact Now.after hb ((Now.refl hT).of_below hb')⟩
    have HD := Lib.hid hD
    rw [e1] at hi
    clear hD e1 e2 e3 hT hq he hh hgood hgd hnd
    rw [hW] at hi c0
    have HW := Lib.hid hW
    clear hW
    go_enter Try.func10, Try.ntmps10
    go_wp2_with (go_at_call 20; refine hi.mono ?_; rintro e w' ⟨rfl, hb'⟩)
    go_ret
    exact HD.out _ (by rw [HW.out]; exact hb')
  · have h1 : i + 1 - i = 1 := by omega
    have hdel := fun w' (hb' : Below W.heap.size W w') => delete_any w' B A L.length c L i (i + 1) ((he.below hb).below hb') (by omega) (by omega)
    simp only [h1] at hdel
    have hD : ∀ w' w'', Below W.heap.size W w' → Ents w'' B A (L.length - 1) c (L.take i ++ L.drop (i + 1)) → w'.grownBy w'' (Value.slice A L.length c).ownBlock →
        Dropped B g (.slice A L.length c) what L w (.returned (.bool true)) (w''.setCell ⟨g, 0, none⟩ (.slice A (L.length - 1) c)) := fun w' w'' hb' he' hg' => by
      refine ⟨by rw [e3], ?_⟩
      have hl := he'.len
      rw [e2] at he' hl
      have hk := (hh.below hb hgw).below hb' hgW
      exact Now.after (hb.trans (hb'.mono hb.size)) (now_put hBg hgd hl hk (hk.own_apart ((he.below hb).below hb') (by decide)) he' hg' (fun k hk => .inl (by cases A <;> simp [Value.ownBlock] at hk ⊢ <;> exact hk)))
    have HD := Lib.hid hD
    have HC := Lib.hid c0
    have HDel := Lib.hid hdel
    have HH := Lib.hid (hh.below hb hgw)
    have HE := Lib.hid (he.below hb)
    rw [e1] at hi
    clear hD h1 e1 e2 e3 hT hq he hh hgood hgd hnd hdel
    rw [hW] at hi c0
    have HW := Lib.hid hW
    clear hW
    have ew := IntWalk.i64_in ((i : Int) + 1) (by omega)
    have hneg : ¬ ((i : Int) < 0) := by omega
    go_enter Try.func10, Try.ntmps10
    go_wp2_with (first
      | (go_at_call 20; refine hi.mono ?_; rintro e w1 ⟨rfl, hb1⟩; rw [← HW.out] at hb1; have c1 := (hb1.cell (p := ⟨g, 0, none⟩) hgW).trans HC.out)
      | (go_at_call 22; refine (HDel.out _ hb1).mono ?_; rintro e w2 ⟨rfl, he2, hg2⟩; have HE2 := Lib.hid he2; have k2 := (HH.out.below hb1 hgW).grown hg2 (fun e => hown e.symm); have c2 := k2.cell 0; have f2 := k2.soft 0))
    go_ret
    exact HD.out _ _ hb1 HE2.out hg2

/-- Behind Set. -/
def Given (B g : Nat) (v : Value) (t what : Int) (L : List (Int × Int)) (w : World) (e : Ending) (w' : World) : Prop := e = .returned (.int .i64 (setE what L)) ∧ Now B g v (setL t what L) w w'
theorem Now.then {w w1 w' : World} {B g : Nat} {v v1 : Value} {L : List (Int × Int)} (hc : Chg (part g v) w w1) (hp : ∀ k, part g v1 k → part g v k ∨ w.heap.size ≤ k) (h : Now B g v1 L w1 w') : Now B g v L w w' := by
  obtain ⟨v', ht, hc', hp'⟩ := h
  refine ⟨v', ht, hc.trans hc' (fun k hk h => (hp k h).elim id (fun h => by omega)), fun k hk => ?_⟩
  rcases hp' k hk with h | h
  · exact hp k h
  · exact .inr (Nat.le_trans hc.size h)
set_option linter.unusedSimpArgs false in
set_option maxHeartbeats 4000000 in
theorem set_any (w : World) (B g : Nat) (v : Value) (L : List (Int × Int)) (t what : Int) (h : Tm w B g v L) (hw : (Lit.int .i64 what).wf = true) :
    Calls Try.prog 8 #[.pointer (some ⟨g, 0, none⟩), .int .i64 t, .int .i64 what] w (Given B g v t what L w) := by
  have hd := drop_any w B g v L what h
  unfold Dropped at hd
  have hlen := fun (v1 : Value) (w1 : World) (h1 : Tm w1 B g v1 (dropL what L)) => h1
  by_cases hfull : (dropL what L).length < 16
  · have hE : setE what L = 0 := by simp [setE, hfull]
    have hS : setL t what L = insL t what (dropL what L) := by simp [setL, hfull]
    have hnew : Good (insL t what (dropL what L)) := good_ins (good_drop h.2.1 what) hfull (not_mem_drop what L) hw
    unfold Given
    rw [hE, hS]
    have hni := len_ins t what (dropL what L)
    obtain ⟨M, hM⟩ : ∃ M, dropL what L = M := ⟨_, rfl⟩
    obtain ⟨b, hb⟩ : ∃ b, hasB what L = b := ⟨_, rfl⟩
    rw [hM] at hd hfull hnew hni ⊢
    rw [hb] at hd
    have HN := Lib.hid hnew
    have HNI := Lib.hid hni
    clear hE hS hM hb hnew hni hlen h hw
    go_enter Try.func8, Try.ntmps8
    go_upto_region 6 with (go_at_call 10; refine hd.mono ?_; rintro e w1 ⟨rfl, v1, ⟨hBg, hgd, A, c, rfl, hh, he⟩, hc, hp⟩; have HC := Lib.hid hc; have HP := Lib.hid hp; have HE := Lib.hid he; have HG := Lib.hid hgd; have HH := Lib.hid hh; have c1 := HH.out.cell 0; clear hc hp he hgd)
    have hms : M.length = M.length := rfl
    obtain ⟨U, hU⟩ : ∃ U, upto t M = U := ⟨_, rfl⟩
    have hUl : U ≤ M.length := by rw [← hU]; exact upto_le t M
    have hnew : M.take U ++ (t, what) :: M.drop U = insL t what M := by rw [← hU]; rfl
    have HU := Lib.hid hU
    have HI := Lib.hid hnew
    clear hU hnew hms
    have HO := Lib.hid (hh.own_apart HE.out (by decide))
    have HE0 : Hid (Ents w1.drew B A M.length c M) := Lib.hid (HE.out.below (below_drewN (Below.refl _ _) 1))
    have HH0 : Hid (Holds w1.drew g 26 #[.slice A M.length c]) := Lib.hid (hh.drewN 1)
    have hgw : g < w1.drew.heap.size := hh.lt
    have huntil := fun (W : World) (he : Ents W B A M.length c M) (hk : W.cell? ⟨g, 0, none⟩ = some (.slice A M.length c)) => until_any W g B A M.length c M t he (by omega) HG.out.1 hk
    simp only [HU.out] at huntil
    have hend : ∀ (W W' : World) (A' : Option Addr) (c' : Nat), Below w1.drew.heap.size w1.drew W → Ents W' B A' (M.length + 1) c' (M.take U ++ (t, what) :: M.drop U) → W.grownBy W' (Value.slice A M.length c).ownBlock →
        (∀ k, (Value.slice A' (M.length + 1) c').ownBlock = some k → (Value.slice A M.length c).ownBlock = some k ∨ W.heap.size ≤ k) → Now B g v (insL t what M) w (W'.setCell ⟨g, 0, none⟩ (.slice A' (M.length + 1) c')) := fun W W' A' c' hb he' hg' hp' => by
      rw [HI.out] at he'
      refine Now.then HC.out HP.out (Now.after (u := W) ⟨hb.os, hb.tape, hb.output, hb.size, hb.block⟩ (now_put hBg HN.out (by rw [HNI.out]) (HH0.out.below hb hgw) HO.out he' hg' hp'))
    have HEnd := Lib.hid hend
    clear hend hh
    refine region_turns (fun (w' : World) => w'.cell? ⟨g, 0, none⟩ = some (.slice A M.length c)) (fun j => decide (13 ≤ j)) (by kernel_rfl) (HH0.out.cell 0) (fun hS => ?_)
    refine Turns.take hS 0 _ rfl (by kernel_rfl) (by kernel_rfl) (by kernel_rfl) (by kernel_rfl) (fun _ _ _ h => h) (by rfl) (fun w' hS' => by (try dsimp only at hS'); go_split_ands; go_simp; (try with_reducible rfl)) ?_
    simp only [Act.put, List.getElem_toArray, List.getElem_cons_succ, List.getElem_cons_zero, List.setIfInBounds_toArray, List.set_cons_zero, List.set_cons_succ]
    refine Turns.take hS 1 _ rfl (by kernel_rfl) (by kernel_rfl) (by kernel_rfl) (by kernel_rfl) (fun _ _ _ h => h) (by rfl) (fun w' hS' => by (try dsimp only at hS'); go_split_ands; go_simp; (try with_reducible rfl)) ?_
    simp only [Act.put, List.getElem_toArray, List.getElem_cons_succ, List.getElem_cons_zero, List.setIfInBounds_toArray, List.set_cons_zero, List.set_cons_succ]
    refine Turns.take hS 2 _ rfl (by kernel_rfl) (by kernel_rfl) (by kernel_rfl) (by kernel_rfl) (fun _ _ _ h => h) (by rfl) (fun w' hS' => by (try dsimp only at hS'); go_split_ands; go_simp; (try with_reducible rfl)) ?_
    simp only [Act.put, List.getElem_toArray, List.getElem_cons_succ, List.getElem_cons_zero, List.setIfInBounds_toArray, List.set_cons_zero, List.set_cons_succ]
    refine Turns.take hS 3 _ rfl (by kernel_rfl) (by kernel_rfl) (by kernel_rfl) (by kernel_rfl) (fun _ _ _ h => h) (by rfl) (fun w' hS' => by (try dsimp only at hS'); go_split_ands; go_simp; (try with_reducible rfl)) ?_
    simp only [Act.put, List.getElem_toArray, List.getElem_cons_succ, List.getElem_cons_zero, List.setIfInBounds_toArray, List.set_cons_zero, List.set_cons_succ]
    refine Turns.take hS 4 _ rfl (by kernel_rfl) (by kernel_rfl) (by kernel_rfl) (by kernel_rfl) (fun _ _ _ h => h) (by rfl) (fun w' hS' => by (try dsimp only at hS'); go_split_ands; go_simp; (try with_reducible rfl)) ?_
    simp only [Act.put, List.getElem_toArray, List.getElem_cons_succ, List.getElem_cons_zero, List.setIfInBounds_toArray, List.set_cons_zero, List.set_cons_succ]
    refine Turns.take hS 5 _ rfl (by kernel_rfl) (by kernel_rfl) (by kernel_rfl) (by kernel_rfl) (fun _ _ _ h => h) (by rfl) (fun w' hS' => by (try dsimp only at hS'); go_split_ands; go_simp; (try with_reducible rfl)) ?_
    simp only [Act.put, List.getElem_toArray, List.getElem_cons_succ, List.getElem_cons_zero, List.setIfInBounds_toArray, List.set_cons_zero, List.set_cons_succ]
    refine Turns.take hS 6 _ rfl (by kernel_rfl) (by kernel_rfl) (by kernel_rfl) (by kernel_rfl) (fun _ _ _ h => h) (by rfl) (fun w' hS' => by (try dsimp only at hS'); go_split_ands; go_simp; (try with_reducible rfl)) ?_
    simp only [Act.put, List.getElem_toArray, List.getElem_cons_succ, List.getElem_cons_zero, List.setIfInBounds_toArray, List.set_cons_zero, List.set_cons_succ]
    refine Turns.take hS 8 _ rfl (by kernel_rfl) (by kernel_rfl) (by kernel_rfl) (by kernel_rfl) (fun _ _ _ h => h) (by rfl) (fun w' hS' => by (try dsimp only at hS'); go_split_ands; go_simp; (try with_reducible rfl)) ?_
    simp only [Act.put, List.getElem_toArray, List.getElem_cons_succ, List.getElem_cons_zero, List.setIfInBounds_toArray, List.set_cons_zero, List.set_cons_succ]
    refine Turns.take hS 9 _ rfl (by kernel_rfl) (by kernel_rfl) (by kernel_rfl) (by kernel_rfl) (fun _ _ _ h => h) (by rfl) (fun w' hS' => by (try dsimp only at hS'); go_split_ands; go_simp; (try with_reducible rfl)) ?_
    simp only [Act.put, List.getElem_toArray, List.getElem_cons_succ, List.getElem_cons_zero, List.setIfInBounds_toArray, List.set_cons_zero, List.set_cons_succ]
    refine Turns.take hS 10 _ rfl (by kernel_rfl) (by kernel_rfl) (by kernel_rfl) (by kernel_rfl) (fun _ _ _ h => h) (by rfl) (fun w' hS' => by (try dsimp only at hS'); go_split_ands; go_simp; (try with_reducible rfl)) ?_
    simp only [Act.put, List.getElem_toArray, List.getElem_cons_succ, List.getElem_cons_zero, List.setIfInBounds_toArray, List.set_cons_zero, List.set_cons_succ]
    refine Turns.either 7 11 rfl rfl (by kernel_rfl) (by rfl) (by rfl) (fun K hK => ?_) (fun K hK => ?_)
    · go_simp
      refine (huntil _ HE0.out (HH0.out.cell 0)).mono ?_
      rintro e w2 ⟨rfl, hb2⟩
      have HE2 := Lib.hid (HE0.out.below hb2)
      have HH2 := Lib.hid (HH0.out.below hb2 hgw)
      refine hK.out _ _ (show (fun (w' : World) => w'.cell? ⟨g, 0, none⟩ = some (.slice A M.length c)) _ from HH2.out.cell 0) ?_
      clear hK K hS
      have hS := (show (fun (w' : World) => w'.cell? ⟨g, 0, none⟩ = some (.slice A M.length c)) _ from HH2.out.cell 0)
      refine Turns.next 11 rfl (by kernel_rfl) (by rfl) (fun K hK => ?_)
      go_simp
      have hb3 := hb2.alloc hb2.size (.cells #[.int .i64 t, .int .i64 what] 50)
      have HE3 := Lib.hid (HE2.out.alloc (.cells #[.int .i64 t, .int .i64 what] 50))
      have HH3 := Lib.hid (HH2.out.alloc (.cells #[.int .i64 t, .int .i64 what] 50))
      have HV3 := Lib.hid (Holds.new w2 50 #[.int .i64 t, .int .i64 what])
      have hvb : (Value.slice A M.length c).ownBlock ≠ some w2.heap.size := fun e => by have := (HE2.out.lt _ e).2; omega
      refine hK.out _ _ (show (fun (w' : World) => w'.cell? ⟨g, 0, none⟩ = some (.slice A M.length c)) _ from HH3.out.cell 0) ?_
      clear hK K hS
      have hS := (show (fun (w' : World) => w'.cell? ⟨g, 0, none⟩ = some (.slice A M.length c)) _ from HH3.out.cell 0)
      refine Turns.next 12 rfl (by kernel_rfl) (by rfl) (fun K hK => ?_)
      go_simp
      refine (insert_any _ B A M.length c M U _ (t, what) HE3.out hUl (by omega) HV3.out hvb (Nat.le_trans hBg (Nat.le_of_lt HH3.out.lt))).mono ?_
      rintro e w4 ⟨A', c', rfl, he4, hg4, hp4⟩
      have HH4 := Lib.hid (HH3.out.grown hg4 (fun e => HO.out e.symm))
      have hfin := HEnd.out _ _ _ _ hb3 he4 hg4 hp4
      have HF := Lib.hid hfin
      clear hfin he4 hg4 hp4
      refine hK.out _ _ (show (fun (w' : World) => w'.cell? ⟨g, 0, none⟩ = some (.slice A M.length c)) _ from HH4.out.cell 0) ?_
      clear hK K hS
      have hS := (show (fun (w' : World) => w'.cell? ⟨g, 0, none⟩ = some (.slice A M.length c)) _ from HH4.out.cell 0)
      refine Turns.rest (late_done (by kernel_rfl)) ?_
      refine any_tail 13 (by rfl) (by kernel_rfl) ?_
      simp only [List.drop_succ_cons, List.drop_zero]
      clear hS
      have c4 := HH4.out.cell 0
      have f4 := HH4.out.soft 0
      go_wp2
      go_ret
      exact ⟨rfl, HF.out⟩
    · go_simp
      refine hK.out _ _ (show (fun (w' : World) => w'.cell? ⟨g, 0, none⟩ = some (.slice A M.length c)) _ from (HH0.out.alloc (.cells #[.int .i64 t, .int .i64 what] 50)).cell 0) ?_
      clear hK K hS
      have hS := (show (fun (w' : World) => w'.cell? ⟨g, 0, none⟩ = some (.slice A M.length c)) _ from (HH0.out.alloc (.cells #[.int .i64 t, .int .i64 what] 50)).cell 0)
      refine Turns.next 7 rfl (by kernel_rfl) (by rfl) (fun K hK => ?_)
      go_simp
      have HE1 := Lib.hid (HE0.out.alloc (.cells #[.int .i64 t, .int .i64 what] 50))
      have HH1 := Lib.hid (HH0.out.alloc (.cells #[.int .i64 t, .int .i64 what] 50))
      have HV1 := Lib.hid (Holds.new w1.drew 50 #[.int .i64 t, .int .i64 what])
      refine (huntil _ HE1.out (HH1.out.cell 0)).mono ?_
      rintro e w3 ⟨rfl, hb2⟩
      have HE3 := Lib.hid (Ents.below HE1.out hb2)
      have HH3 := Lib.hid (HH1.out.below hb2 HH1.out.lt)
      have HV3 := Lib.hid (HV1.out.below hb2 HV1.out.lt)
      have hb3 := (below_alloc w1.drew (.cells #[.int .i64 t, .int .i64 what] 50)).trans (hb2.mono (by simp))
      have hvb : (Value.slice A M.length c).ownBlock ≠ some w1.drew.heap.size := fun e => by have := (HE0.out.lt _ e).2; omega
      refine hK.out _ _ (show (fun (w' : World) => w'.cell? ⟨g, 0, none⟩ = some (.slice A M.length c)) _ from HH3.out.cell 0) ?_
      clear hK K hS
      have hS := (show (fun (w' : World) => w'.cell? ⟨g, 0, none⟩ = some (.slice A M.length c)) _ from HH3.out.cell 0)
      refine Turns.next 12 rfl (by kernel_rfl) (by rfl) (fun K hK => ?_)
      go_simp
      refine (insert_any _ B A M.length c M U _ (t, what) HE3.out hUl (by omega) HV3.out hvb (Nat.le_trans hBg (Nat.le_of_lt HH3.out.lt))).mono ?_
      rintro e w4 ⟨A', c', rfl, he4, hg4, hp4⟩
      have HH4 := Lib.hid (HH3.out.grown hg4 (fun e => HO.out e.symm))
      have hfin := HEnd.out _ _ _ _ hb3 he4 hg4 hp4
      have HF := Lib.hid hfin
      clear hfin he4 hg4 hp4
      refine hK.out _ _ (show (fun (w' : World) => w'.cell? ⟨g, 0, none⟩ = some (.slice A M.length c)) _ from HH4.out.cell 0) ?_
      clear hK K hS
      have hS := (show (fun (w' : World) => w'.cell? ⟨g, 0, none⟩ = some (.slice A M.length c)) _ from HH4.out.cell 0)
      refine Turns.rest (late_done (by kernel_rfl)) ?_
      refine any_tail 13 (by rfl) (by kernel_rfl) ?_
      simp only [List.drop_succ_cons, List.drop_zero]
      clear hS
      have c4 := HH4.out.cell 0
      have f4 := HH4.out.soft 0
      go_wp2
      go_ret
      exact ⟨rfl, HF.out⟩
  · have hE : setE what L = 6 := by simp [setE, hfull]
    have hS : setL t what L = dropL what L := by simp [setL, hfull]
    unfold Given
    rw [hE, hS]
    obtain ⟨M, hM⟩ : ∃ M, dropL what L = M := ⟨_, rfl⟩
    obtain ⟨b, hb⟩ : ∃ b, hasB what L = b := ⟨_, rfl⟩
    rw [hM] at hd hfull ⊢
    rw [hb] at hd
    clear hE hS hM hb hlen h hw
    go_enter Try.func8, Try.ntmps8
    go_wp2_with (go_at_call 10; refine hd.mono ?_; rintro e w1 ⟨rfl, hnow⟩; obtain ⟨v1, hT, _⟩ := id hnow; obtain ⟨_, _, A, c, rfl, hh, _⟩ := hT; have c1 := hh.cell 0; clear hh; have HN := Lib.hid hnow; clear hnow)
    go_ret
    exact ⟨rfl, HN.out⟩
end Go.Proofs.Ytfpjicmmnhcfcaa
