/- Package leap: the law's same: a table gone over, held against one of the document's. -/
import Derived.Test.YtiglhmdiiajmhaaDoorLpI
import Derived.Test.YtiglhmdiiajmhaaDoorLpJ
import Derived.Test.YtiglhmdiiajmhaaDoorRound
namespace Go.Proofs.YtiglhmdiiajmhaaDoor
open Go.RowKit Go.Shelf
set_option linter.unusedVariables false
set_option linter.unusedSimpArgs false
attribute [local go_sem] Oper.semAt_some

/-- Between two leaps that same looks at. -/
structure SRun (w : World) (st ah en : Int) (A : Option Addr) (c : Nat) (L pre : List (Int × Int)) (W : World) : Prop where
  isPre : pre <+: L
  tab : Holds W w.heap.size 24 #[.int .i64 st, .int .i64 ah, .int .i64 en, .slice A L.length c]
  res : Holds W (w.heap.size + 1) 4 #[.bool false]
  cnt : Holds W (w.heap.size + 2) 3 #[.int .i64 (pre.length : Int)]
  below : Below w.heap.size w W
theorem SRun.turned {w : World} {st ah en : Int} {A : Option Addr} {c : Nat} {L pre : List (Int × Int)} {W W' : World} {row : Option Nat} (h : SRun w st ah en A c L pre W) (hg : W.grownBy W' row) (hr : NoCells W row) (hb : ∀ k, row = some k → w.heap.size ≤ k) : SRun w st ah en A c L pre W' :=
  ⟨h.isPre, h.tab.turned hg hr, h.res.turned hg hr, h.cnt.turned hg hr, h.below.grown hg h.below.size hb⟩
def SOut (w : World) (W : World) : Prop := Holds W (w.heap.size + 1) 4 #[.bool false] ∧ Below w.heap.size w W
theorem SOut.turned {w W W' : World} {row : Option Nat} (h : SOut w W) (hg : W.grownBy W' row) (hr : NoCells W row) (hb : ∀ k, row = some k → w.heap.size ≤ k) : SOut w W' :=
  ⟨h.1.turned hg hr, h.2.grown hg h.2.size hb⟩
theorem same_leaves {n : Nat} {w : World} {W : World} {tmps : Array Value} {v : Bool} {D : Nat} (h2 : Holds W (w.heap.size + 1) 4 #[.bool v]) (hb : Below w.heap.size w W)
    (hD : w.heap.size ≤ D) (hDk : W.heap[D]? = some (.deferred (some []))) (t4 : tmps.getD 4 undef = .pointer (some ⟨w.heap.size + 1, 0, none⟩)) :
    LeavesInM Fence.wide n Tryd.prog Tryd.f15 tmps (fun e w' => e = .returned (.bool v) ∧ Below w.heap.size w w') [mark D] .returning W := by
  refine leaves_marks (I := fun W => Holds W (w.heap.size + 1) 4 #[.bool v] ∧ Below w.heap.size w W) (lo := w.heap.size) (hi := D + 1) (fun W D' hD' hI hd => ?_) (fun W hI => ?_) [D] W ⟨by simp, fun E hE => by
    simp only [List.mem_cons, List.not_mem_nil, or_false] at hE
    subst hE
    exact ⟨hD, Nat.lt_succ_self _, hDk⟩⟩ ⟨h2, hb⟩
  · have hg := grownBy_putObj' W D' (.deferred none)
    exact ⟨hI.1.turned hg (fun k e => by cases e; exact ⟨_, hd, rfl⟩), hI.2.grown hg hI.2.size (fun k e => by cases e; exact hD')⟩
  · refine ⟨.bool v, ?_, rfl, hI.2⟩
    have c2 := hI.1.cell 0
    have t4' : tmps[4]?.getD undef = .pointer (some ⟨w.heap.size + 1, 0, none⟩) := by simpa using t4
    simp [results, Tryd.f15, go_sem, c2, t4']
theorem pair_next {L pre : List (Int × Int)} (h : pre <+: L) (hlt : pre.length < L.length) {x : Int × Int} (hx : L[pre.length]? = some x) : pre ++ [x] <+: L := by
  obtain ⟨r, rfl⟩ := h
  cases r with
  | nil => simp at hlt
  | cons a r =>
    simp at hx
    subst hx
    exact ⟨r, by simp⟩
theorem pair_only {L pre : List (Int × Int)} {x y : Int × Int} (h : pre ++ [x] <+: L) (hy : L[pre.length]? = some y) : y = x := by
  obtain ⟨r, rfl⟩ := h
  simpa using hy.symm
theorem Holds.drew' {w : World} {g : Nat} {t : TypeId} {cs : Array Value} (h : Holds w g t cs) : Holds w.drew g t cs := h
set_option maxRecDepth 100000 in
set_option maxHeartbeats 8000000 in
theorem same_yes (w : World) (p : Option Addr) (st ah en : Int) (L : List (Int × Int)) (A : Option Addr) (c : Nat) (h : Src w w.heap.size p st en L) (hr : PRow w A L.length c L) :
    Calls Tryd.prog 15 #[.pointer p, .agg #[.int .i64 st, .int .i64 ah, .int .i64 en, .slice A L.length c]] w fun e w' => e = .returned (.bool true) ∧ Below w.heap.size w w' := by
  refine (callsIn_wide (n := 4)).1 ?_
  refine callsIn_of_wp_marks Tryd.func15 rfl trivial ?_ rfl
  simp only [Tryd.ntmps15, List.size_toArray, List.length_cons, List.length_nil, Nat.reduceAdd, Nat.reduceSub, Array.replicate_succ, Array.replicate_zero, List.push_toArray, List.append_toArray, List.nil_append, List.cons_append]
  have h8 := h.le
  have HS := Lib.hid h
  have HRow := Lib.hid hr
  clear h hr
  gi_wp2_with (refine ⟨trivial, ?_⟩; gi_at_call 23; refine (callsIn_wide.2 (all_any _ p)).mono ?_; rintro e w' ⟨rfl, rfl⟩)
  have sR : ((((w.alloc (.cells #[.int .i64 st, .int .i64 ah, .int .i64 en, .slice A L.length c] 24)).alloc (.cells #[.bool false] 4)).alloc (.cells #[.int .i64 0] 3)).alloc (.cells #[.pointer p] 26)).heap.size = w.heap.size + 4 := by simp
  have b0 : SRun w st ah en A c L [] ((((w.alloc (.cells #[.int .i64 st, .int .i64 ah, .int .i64 en, .slice A L.length c] 24)).alloc (.cells #[.bool false] 4)).alloc (.cells #[.int .i64 0] 3)).alloc (.cells #[.pointer p] 26)) := by
    refine ⟨List.nil_prefix, (((Holds.new w _ _).alloc _).alloc _).alloc _, ?_, ?_, (((below_alloc w _).alloc (by simp) _).alloc (by simp; omega) _).alloc (by simp; omega) _⟩
    · have := ((Holds.new (w.alloc (.cells #[.int .i64 st, .int .i64 ah, .int .i64 en, .slice A L.length c] 24)) 4 #[.bool false]).alloc (.cells #[.int .i64 0] 3)).alloc (.cells #[.pointer p] 26)
      rwa [size_alloc] at this
    · have := (Holds.new ((w.alloc (.cells #[.int .i64 st, .int .i64 ah, .int .i64 en, .slice A L.length c] 24)).alloc (.cells #[.bool false] 4)) 3 #[.int .i64 0]).alloc (.cells #[.pointer p] 26)
      rwa [size_alloc, size_alloc] at this
  have cR := (Holds.new (((w.alloc (.cells #[.int .i64 st, .int .i64 ah, .int .i64 en, .slice A L.length c] 24)).alloc (.cells #[.bool false] 4)).alloc (.cells #[.int .i64 0] 3)) 26 #[.pointer p]).cell 0
  rw [size_alloc, size_alloc, size_alloc] at cR
  have hS := HS.out.below b0.below
  obtain ⟨WR, hWR⟩ : ∃ WR, ((((w.alloc (.cells #[.int .i64 st, .int .i64 ah, .int .i64 en, .slice A L.length c] 24)).alloc (.cells #[.bool false] 4)).alloc (.cells #[.int .i64 0] 3)).alloc (.cells #[.pointer p] 26)) = WR := ⟨_, rfl⟩
  rw [hWR] at b0 cR sR hS
  simp only [hWR]
  clear hWR
  refine range_boxed rfl (by omega) (gf := 38) (lb := #[.pointer (some ⟨w.heap.size + 1 + 1 + 1, 0, none⟩)]) rfl trivial (enters_of Tryd.func38 (by kernel_rfl) rfl)
    (all1_stops _ (by omega) (w.heap.size + 1 + 1 + 1) w.heap.size (w.heap.size + 4) p st en L WR hS cR (by omega)) keptO_t (fun W l o o' _ h hc hw => keptO_b W l o o' h hc hw) (fun _ _ h => keptO_below h) (Below.refl _ _) (fun _ => rfl)
    (fun (pre : List (Int × Int)) W => SRun w st ah en A c L pre W)
    (fun c pre W => c = .ret ∧ SOut w W ∧ ¬ pre <+: L)
    (fun s W W' row hs hg hr => hs.turned hg (fun k e => (hr k e).2) (fun k e => by have := (hr k e).1; omega))
    (fun c s W W' row hs hg hr => ⟨hs.1, hs.2.1.turned hg (fun k e => (hr k e).2) (fun k e => by have := (hr k e).1; omega), hs.2.2⟩)
    b0 51 (fun x => #[.int .i64 x.1, .int .i64 x.2]) ?a₁ ?assign ?body ?done ?stop
  case assign =>
    intro l y b W K hb hK
    simp only [lpA]
    have HB := Lib.hid hb
    clear hb
    gi_wp2
    simp only [HB.out]
    exact hK
  case body =>
    rintro l pre y g W hl ⟨rc, hrc⟩ hrn he hlen
    obtain ⟨a, b⟩ := y
    dsimp only at he ⊢
    have c0 := hrn.tab.cell 3
    have c2 := hrn.cnt.cell 0
    have f2 := hrn.cnt.soft 0
    have c1 := hrn.res.cell 0
    have f1 := hrn.res.soft 0
    have e0 := he.cell 0
    have e1 := he.cell 1
    obtain ⟨x, hx⟩ : ∃ x, L[pre.length]? = some x := ⟨_, List.getElem?_eq_getElem hlen⟩
    have hnx := pair_next hrn.isPre hlen hx
    have hon := fun (h : pre ++ [(a, b)] <+: L) => pair_only h hx
    obtain ⟨X, Y⟩ := x
    obtain ⟨bl, off, rfl, _, q0, q1⟩ := (HRow.out.below hrn.below).at hx
    obtain ⟨N, hN⟩ : ∃ N, L.length = N := ⟨_, rfl⟩
    obtain ⟨m, hm⟩ : ∃ m, pre.length = m := ⟨_, rfl⟩
    rw [hN] at hlen h8
    rw [hm] at hlen
    have d1 : decide ((N : Int) ≤ (m : Int)) = false := decide_eq_false (by omega)
    have d2 : decide (N ≤ m) = false := decide_eq_false (by omega)
    have dlt : (m : Int) < (N : Int) := by omega
    have dlt2 : m < N := hlen
    have ew := IntWalk.i64_in ((m : Int) + 1) (by omega)
    have hch := Chg.set (S := fun k => k = w.heap.size + 2) W.drew (w.heap.size + 2) 0 (.int .i64 ((m : Int) + 1)) rfl
    have hbd : Below W.heap.size W W.drew := (Below.refl _ _).drew
    by_cases hxy : (X, Y) = (a, b)
    · simp only [Prod.mk.injEq] at hxy
      obtain ⟨rfl, rfl⟩ := hxy
      have HR := Lib.hid (show SRun w st ah en (some ⟨bl, off, none⟩) c L (pre ++ [(X, Y)]) (W.drew.setCell ⟨w.heap.size + 2, 0, none⟩ (.int .i64 ((m : Int) + 1))) from
        ⟨hnx, hrn.tab.drew'.far (by omega) _, hrn.res.drew'.far (by omega) _, by have := hrn.cnt.drew'.put 0 (.int .i64 ((m : Int) + 1)); rw [List.length_append, hm]; simpa using this, (hrn.below.drew).setCell (p := ⟨w.heap.size + 2, 0, none⟩) (by show w.heap.size ≤ w.heap.size + 2; omega) _⟩)
      have HK := Lib.hid (show KeptO w.heap.size (w.heap.size + 4) W (W.drew.setCell ⟨w.heap.size + 2, 0, none⟩ (.int .i64 ((m : Int) + 1))) from keptO_t (keptO_below hbd) (keptO_chg hch (fun k hk => by omega)))
      have HO := Lib.hid (show KeepsFrom WR.heap.size W (W.drew.setCell ⟨w.heap.size + 2, 0, none⟩ (.int .i64 ((m : Int) + 1))) from ((others_of_below hbd).trans (KeepsOthers.setCell W.drew ⟨w.heap.size + 2, 0, none⟩ (.int .i64 ((m : Int) + 1)))).from _)
      rw [hN] at c0
      rw [hm] at c2 q0 q1
      have HCS := Lib.hid (And.intro c0 (And.intro c2 (And.intro e0 (And.intro e1 (And.intro q0 q1)))))
      clear hrn hch hnx hon hx hN hm hlen he
      gi_wp2
      refine round_turns (fun (w' : World) => w'.cell? ⟨w.heap.size, 3, none⟩ = some (.slice (some ⟨bl, off, none⟩) N c) ∧ w'.cell? ⟨w.heap.size + 2, 0, none⟩ = some (.int .i64 (m : Int)) ∧ w'.cell? ⟨g, 0, none⟩ = some (.int .i64 X) ∧ w'.cell? ⟨g, 1, none⟩ = some (.int .i64 Y) ∧ w'.cell? ⟨bl, off + m * 2, none⟩ = some (.int .i64 X) ∧ w'.cell? ⟨bl, off + m * 2 + 1, none⟩ = some (.int .i64 Y)) (fun j => decide (14 ≤ j)) (by kernel_rfl) (by kernel_rfl) (by rintro ⟨_, _, h⟩; exact h) (HCS.out) (fun hS => ?_)
      refine Turns.take hS 0 _ rfl (by kernel_rfl) (by kernel_rfl) (by kernel_rfl) (by kernel_rfl) (fun _ _ _ h => h) (by rfl) (fun w' hS' => by (try dsimp only at hS'); go_split_ands; go_simp; (try with_reducible rfl)) ?_
      simp only [Act.put, List.getElem_toArray, List.getElem_cons_succ, List.getElem_cons_zero, List.setIfInBounds_toArray, List.set_cons_zero, List.set_cons_succ]
      refine Turns.take hS 1 _ rfl (by kernel_rfl) (by kernel_rfl) (by kernel_rfl) (by kernel_rfl) (fun _ _ _ h => h) (by rfl) (fun w' hS' => by (try dsimp only at hS'); go_split_ands; go_simp; (try with_reducible rfl)) ?_
      simp only [Act.put, List.getElem_toArray, List.getElem_cons_succ, List.getElem_cons_zero, List.setIfInBounds_toArray, List.set_cons_zero, List.set_cons_succ]
      refine Turns.take hS 2 _ rfl (by kernel_rfl) (by kernel_rfl) (by kernel_rfl) (by kernel_rfl) (fun _ _ _ h => h) (by rfl) (fun w' hS' => by (try dsimp only at hS'); go_split_ands; go_simp; (try with_reducible rfl)) ?_
      simp only [Act.put, List.getElem_toArray, List.getElem_cons_succ, List.getElem_cons_zero, List.setIfInBounds_toArray, List.set_cons_zero, List.set_cons_succ]
      refine Turns.take hS 3 _ rfl (by kernel_rfl) (by kernel_rfl) (by kernel_rfl) (by kernel_rfl) (fun _ _ _ h => h) (by rfl) (fun w' hS' => by (try dsimp only at hS'); go_split_ands; go_simp; (try with_reducible rfl)) ?_
      simp only [Act.put, List.getElem_toArray, List.getElem_cons_succ, List.getElem_cons_zero, List.setIfInBounds_toArray, List.set_cons_zero, List.set_cons_succ]
      refine Turns.take hS 4 _ rfl (by kernel_rfl) (by kernel_rfl) (by kernel_rfl) (by kernel_rfl) (fun _ _ _ h => h) (by rfl) (fun w' hS' => by (try dsimp only at hS'); go_split_ands; go_simp; (try with_reducible rfl)) ?_
      simp only [Act.put, List.getElem_toArray, List.getElem_cons_succ, List.getElem_cons_zero, List.setIfInBounds_toArray, List.set_cons_zero, List.set_cons_succ]
      refine Turns.take hS 5 _ rfl (by kernel_rfl) (by kernel_rfl) (by kernel_rfl) (by kernel_rfl) (fun _ _ _ h => h) (by rfl) (fun w' hS' => by (try dsimp only at hS'); go_split_ands; go_simp; (try with_reducible rfl)) ?_
      simp only [Act.put, List.getElem_toArray, List.getElem_cons_succ, List.getElem_cons_zero, List.setIfInBounds_toArray, List.set_cons_zero, List.set_cons_succ]
      refine Turns.take hS 6 _ rfl (by kernel_rfl) (by kernel_rfl) (by kernel_rfl) (by kernel_rfl) (fun _ _ _ h => h) (by rfl) (fun w' hS' => by (try dsimp only at hS'); go_split_ands; go_simp; (try with_reducible rfl)) ?_
      simp only [Act.put, List.getElem_toArray, List.getElem_cons_succ, List.getElem_cons_zero, List.setIfInBounds_toArray, List.set_cons_zero, List.set_cons_succ]
      refine Turns.take hS 7 _ rfl (by kernel_rfl) (by kernel_rfl) (by kernel_rfl) (by kernel_rfl) (fun _ _ _ h => h) (by rfl) (fun w' hS' => by (try dsimp only at hS'); go_split_ands; go_simp; (try with_reducible rfl)) ?_
      simp only [Act.put, List.getElem_toArray, List.getElem_cons_succ, List.getElem_cons_zero, List.setIfInBounds_toArray, List.set_cons_zero, List.set_cons_succ]
      refine Turns.take hS 8 _ rfl (by kernel_rfl) (by kernel_rfl) (by kernel_rfl) (by kernel_rfl) (fun _ _ _ h => h) (by rfl) (fun w' hS' => by (try dsimp only at hS'); go_split_ands; go_simp; (try with_reducible rfl)) ?_
      simp only [Act.put, List.getElem_toArray, List.getElem_cons_succ, List.getElem_cons_zero, List.setIfInBounds_toArray, List.set_cons_zero, List.set_cons_succ]
      refine Turns.take hS 9 _ rfl (by kernel_rfl) (by kernel_rfl) (by kernel_rfl) (by kernel_rfl) (fun _ _ _ h => h) (by rfl) (fun w' hS' => by (try dsimp only at hS'); go_split_ands; go_simp; (try with_reducible rfl)) ?_
      simp only [Act.put, List.getElem_toArray, List.getElem_cons_succ, List.getElem_cons_zero, List.setIfInBounds_toArray, List.set_cons_zero, List.set_cons_succ]
      refine Turns.take hS 10 _ rfl (by kernel_rfl) (by kernel_rfl) (by kernel_rfl) (by kernel_rfl) (fun _ _ _ h => h) (by rfl) (fun w' hS' => by (try dsimp only at hS'); go_split_ands; go_simp; (try with_reducible rfl)) ?_
      simp only [Act.put, List.getElem_toArray, List.getElem_cons_succ, List.getElem_cons_zero, List.setIfInBounds_toArray, List.set_cons_zero, List.set_cons_succ]
      refine Turns.take hS 11 _ rfl (by kernel_rfl) (by kernel_rfl) (by kernel_rfl) (by kernel_rfl) (fun _ _ _ h => h) (by rfl) (fun w' hS' => by (try dsimp only at hS'); go_split_ands; go_simp; (try with_reducible rfl)) ?_
      simp only [Act.put, List.getElem_toArray, List.getElem_cons_succ, List.getElem_cons_zero, List.setIfInBounds_toArray, List.set_cons_zero, List.set_cons_succ]
      refine Turns.take hS 12 _ rfl (by kernel_rfl) (by kernel_rfl) (by kernel_rfl) (by kernel_rfl) (fun _ _ _ h => h) (by rfl) (fun w' hS' => by (try dsimp only at hS'); go_split_ands; go_simp; (try with_reducible rfl)) ?_
      simp only [Act.put, List.getElem_toArray, List.getElem_cons_succ, List.getElem_cons_zero, List.setIfInBounds_toArray, List.set_cons_zero, List.set_cons_succ]
      refine Turns.take hS 13 _ rfl (by kernel_rfl) (by kernel_rfl) (by kernel_rfl) (by kernel_rfl) (fun _ _ _ h => h) (by rfl) (fun w' hS' => by (try dsimp only at hS'); go_split_ands; go_simp; (try with_reducible rfl)) ?_
      simp only [Act.put, List.getElem_toArray, List.getElem_cons_succ, List.getElem_cons_zero, List.setIfInBounds_toArray, List.set_cons_zero, List.set_cons_succ]
      refine Turns.rest (late_done (by kernel_rfl)) ?_
      refine any_tail 14 (by rfl) (by kernel_rfl) ?_
      simp only [List.drop_succ_cons, List.drop_zero]
      clear hS
      go_wp2
      gi_wp2
      exact ⟨HO.out, HK.out, HR.out⟩
    · have HR := Lib.hid (show SOut w (W.drew.setCell ⟨w.heap.size + 1, 0, none⟩ (.bool false)) from ⟨hrn.res.drew'.put 0 _, hrn.below.drew.setCell (p := ⟨w.heap.size + 1, 0, none⟩) (by show w.heap.size ≤ w.heap.size + 1; omega) _⟩)
      have HO := Lib.hid (show KeepsFrom WR.heap.size W (W.drew.setCell ⟨w.heap.size + 1, 0, none⟩ (.bool false)) from ((others_of_below hbd).trans (KeepsOthers.setCell W.drew ⟨w.heap.size + 1, 0, none⟩ (.bool false))).from _)
      have HN := Lib.hid (show ¬ pre ++ [(a, b)] <+: L from fun h => hxy (hon h))
      have hne : (¬ a = X) ∨ (a = X ∧ ¬ b = Y) := by
        by_cases h1 : a = X
        · exact .inr ⟨h1, fun h2 => hxy (by rw [h1, h2])⟩
        · exact .inl h1
      rw [hN] at c0
      rw [hm] at c2 q0 q1
      have HCS := Lib.hid (And.intro c0 (And.intro c2 (And.intro e0 (And.intro e1 (And.intro q0 q1)))))
      clear hrn hch hnx hon hx hN hm hlen he hxy
      rcases hne with h1 | ⟨rfl, h1⟩
      all_goals
        gi_wp2
        refine round_turns (fun (w' : World) => w'.cell? ⟨w.heap.size, 3, none⟩ = some (.slice (some ⟨bl, off, none⟩) N c) ∧ w'.cell? ⟨w.heap.size + 2, 0, none⟩ = some (.int .i64 (m : Int)) ∧ w'.cell? ⟨g, 0, none⟩ = some (.int .i64 _) ∧ w'.cell? ⟨g, 1, none⟩ = some (.int .i64 _) ∧ w'.cell? ⟨bl, off + m * 2, none⟩ = some (.int .i64 _) ∧ w'.cell? ⟨bl, off + m * 2 + 1, none⟩ = some (.int .i64 _)) (fun j => decide (14 ≤ j)) (by kernel_rfl) (by kernel_rfl) (by rintro ⟨_, _, h⟩; exact h) (HCS.out) (fun hS => ?_)
        refine Turns.take hS 0 _ rfl (by kernel_rfl) (by kernel_rfl) (by kernel_rfl) (by kernel_rfl) (fun _ _ _ h => h) (by rfl) (fun w' hS' => by (try dsimp only at hS'); go_split_ands; go_simp; (try with_reducible rfl)) ?_
        simp only [Act.put, List.getElem_toArray, List.getElem_cons_succ, List.getElem_cons_zero, List.setIfInBounds_toArray, List.set_cons_zero, List.set_cons_succ]
        refine Turns.take hS 1 _ rfl (by kernel_rfl) (by kernel_rfl) (by kernel_rfl) (by kernel_rfl) (fun _ _ _ h => h) (by rfl) (fun w' hS' => by (try dsimp only at hS'); go_split_ands; go_simp; (try with_reducible rfl)) ?_
        simp only [Act.put, List.getElem_toArray, List.getElem_cons_succ, List.getElem_cons_zero, List.setIfInBounds_toArray, List.set_cons_zero, List.set_cons_succ]
        refine Turns.take hS 2 _ rfl (by kernel_rfl) (by kernel_rfl) (by kernel_rfl) (by kernel_rfl) (fun _ _ _ h => h) (by rfl) (fun w' hS' => by (try dsimp only at hS'); go_split_ands; go_simp; (try with_reducible rfl)) ?_
        simp only [Act.put, List.getElem_toArray, List.getElem_cons_succ, List.getElem_cons_zero, List.setIfInBounds_toArray, List.set_cons_zero, List.set_cons_succ]
        refine Turns.take hS 3 _ rfl (by kernel_rfl) (by kernel_rfl) (by kernel_rfl) (by kernel_rfl) (fun _ _ _ h => h) (by rfl) (fun w' hS' => by (try dsimp only at hS'); go_split_ands; go_simp; (try with_reducible rfl)) ?_
        simp only [Act.put, List.getElem_toArray, List.getElem_cons_succ, List.getElem_cons_zero, List.setIfInBounds_toArray, List.set_cons_zero, List.set_cons_succ]
        refine Turns.take hS 4 _ rfl (by kernel_rfl) (by kernel_rfl) (by kernel_rfl) (by kernel_rfl) (fun _ _ _ h => h) (by rfl) (fun w' hS' => by (try dsimp only at hS'); go_split_ands; go_simp; (try with_reducible rfl)) ?_
        simp only [Act.put, List.getElem_toArray, List.getElem_cons_succ, List.getElem_cons_zero, List.setIfInBounds_toArray, List.set_cons_zero, List.set_cons_succ]
        refine Turns.take hS 5 _ rfl (by kernel_rfl) (by kernel_rfl) (by kernel_rfl) (by kernel_rfl) (fun _ _ _ h => h) (by rfl) (fun w' hS' => by (try dsimp only at hS'); go_split_ands; go_simp; (try with_reducible rfl)) ?_
        simp only [Act.put, List.getElem_toArray, List.getElem_cons_succ, List.getElem_cons_zero, List.setIfInBounds_toArray, List.set_cons_zero, List.set_cons_succ]
        refine Turns.take hS 6 _ rfl (by kernel_rfl) (by kernel_rfl) (by kernel_rfl) (by kernel_rfl) (fun _ _ _ h => h) (by rfl) (fun w' hS' => by (try dsimp only at hS'); go_split_ands; go_simp; (try with_reducible rfl)) ?_
        simp only [Act.put, List.getElem_toArray, List.getElem_cons_succ, List.getElem_cons_zero, List.setIfInBounds_toArray, List.set_cons_zero, List.set_cons_succ]
        refine Turns.take hS 7 _ rfl (by kernel_rfl) (by kernel_rfl) (by kernel_rfl) (by kernel_rfl) (fun _ _ _ h => h) (by rfl) (fun w' hS' => by (try dsimp only at hS'); go_split_ands; go_simp; (try with_reducible rfl)) ?_
        simp only [Act.put, List.getElem_toArray, List.getElem_cons_succ, List.getElem_cons_zero, List.setIfInBounds_toArray, List.set_cons_zero, List.set_cons_succ]
        refine Turns.take hS 8 _ rfl (by kernel_rfl) (by kernel_rfl) (by kernel_rfl) (by kernel_rfl) (fun _ _ _ h => h) (by rfl) (fun w' hS' => by (try dsimp only at hS'); go_split_ands; go_simp; (try with_reducible rfl)) ?_
        simp only [Act.put, List.getElem_toArray, List.getElem_cons_succ, List.getElem_cons_zero, List.setIfInBounds_toArray, List.set_cons_zero, List.set_cons_succ]
        refine Turns.take hS 9 _ rfl (by kernel_rfl) (by kernel_rfl) (by kernel_rfl) (by kernel_rfl) (fun _ _ _ h => h) (by rfl) (fun w' hS' => by (try dsimp only at hS'); go_split_ands; go_simp; (try with_reducible rfl)) ?_
        simp only [Act.put, List.getElem_toArray, List.getElem_cons_succ, List.getElem_cons_zero, List.setIfInBounds_toArray, List.set_cons_zero, List.set_cons_succ]
        refine Turns.take hS 10 _ rfl (by kernel_rfl) (by kernel_rfl) (by kernel_rfl) (by kernel_rfl) (fun _ _ _ h => h) (by rfl) (fun w' hS' => by (try dsimp only at hS'); go_split_ands; go_simp; (try with_reducible rfl)) ?_
        simp only [Act.put, List.getElem_toArray, List.getElem_cons_succ, List.getElem_cons_zero, List.setIfInBounds_toArray, List.set_cons_zero, List.set_cons_succ]
        refine Turns.take hS 11 _ rfl (by kernel_rfl) (by kernel_rfl) (by kernel_rfl) (by kernel_rfl) (fun _ _ _ h => h) (by rfl) (fun w' hS' => by (try dsimp only at hS'); go_split_ands; go_simp; (try with_reducible rfl)) ?_
        simp only [Act.put, List.getElem_toArray, List.getElem_cons_succ, List.getElem_cons_zero, List.setIfInBounds_toArray, List.set_cons_zero, List.set_cons_succ]
        refine Turns.take hS 12 _ rfl (by kernel_rfl) (by kernel_rfl) (by kernel_rfl) (by kernel_rfl) (fun _ _ _ h => h) (by rfl) (fun w' hS' => by (try dsimp only at hS'); go_split_ands; go_simp; (try with_reducible rfl)) ?_
        simp only [Act.put, List.getElem_toArray, List.getElem_cons_succ, List.getElem_cons_zero, List.setIfInBounds_toArray, List.set_cons_zero, List.set_cons_succ]
        refine Turns.take hS 13 _ rfl (by kernel_rfl) (by kernel_rfl) (by kernel_rfl) (by kernel_rfl) (fun _ _ _ h => h) (by rfl) (fun w' hS' => by (try dsimp only at hS'); go_split_ands; go_simp; (try with_reducible rfl)) ?_
        simp only [Act.put, List.getElem_toArray, List.getElem_cons_succ, List.getElem_cons_zero, List.setIfInBounds_toArray, List.set_cons_zero, List.set_cons_succ]
        refine Turns.rest (late_done (by kernel_rfl)) ?_
        refine any_tail 14 (by rfl) (by kernel_rfl) ?_
        simp only [List.drop_succ_cons, List.drop_zero]
        clear hS
        go_wp2
        gi_wp2
        exact ⟨HO.out, rfl, HR.out, HN.out⟩
  case done =>
    rintro D ys W hD rfl hrn hDk
    have c0 := hrn.tab.cell 0
    have c3 := hrn.tab.cell 2
    have c4 := hrn.tab.cell 3
    have c2 := hrn.cnt.cell 0
    have c1 := hrn.res.cell 0
    have f1 := hrn.res.soft 0
    have HRG := Lib.hid (range_any W w.heap.size p st en ys (HS.out.below hrn.below))
    have hst := beq_self_eq_true st
    have hen := beq_self_eq_true en
    have hle := beq_self_eq_true (ys.length : Int)
    have HRN := Lib.hid hrn
    have HDk := Lib.hid hDk
    clear hrn hDk
    gi_wp2_with (refine ⟨trivial, ?_⟩; gi_at_call 11; refine (callsIn_wide.2 HRG.out).mono ?_; rintro e w1 ⟨rfl, n1, rfl⟩)
    have HP : Holds ((W.drewN n1).setCell ⟨w.heap.size + 1, 0, none⟩ (.bool true)) (w.heap.size + 1) 4 #[.bool true] := (show Holds (W.drewN n1) (w.heap.size + 1) 4 #[.bool false] from HRN.out.res).put 0 _
    have HB := (below_drewN HRN.out.below n1).setCell (p := ⟨w.heap.size + 1, 0, none⟩) (by show w.heap.size ≤ w.heap.size + 1; omega) (.bool true)
    have HD := (KeepsOthers.setCell (W.drewN n1) ⟨w.heap.size + 1, 0, none⟩ (.bool true)).same D _ HDk.out rfl
    exact same_leaves HP HB (by omega) HD rfl
  case stop =>
    rintro D c pre W hD hpre ⟨rfl, hout, h2⟩ hDk
    exact absurd hpre h2
end Go.Proofs.YtiglhmdiiajmhaaDoor
