/- The law's same and first: a table gone over. -/
import Derived.Test.YtfeemjkjgbjejaaTbE
import Derived.Test.YtfeemjkjgbjejaaRound
import Derived.Test.YtfeemjkjgbjejaaRange
namespace Go.Proofs.Ytfeemjkjgbjejaa
open Go.RowKit Go.Shelf
set_option linter.unusedVariables false
set_option linter.unusedSimpArgs false
attribute [local go_sem] Oper.semAt_some

/-- Between two entries that same looks at. -/
structure SRun (w : World) (A : Option Addr) (c : Nat) (L pre : List Ent) (W : World) : Prop where
  isPre : pre <+: L
  list : Holds W w.heap.size 38 #[.slice A L.length c]
  res : Holds W (w.heap.size + 1) 4 #[.bool false]
  cnt : Holds W (w.heap.size + 2) 3 #[.int .i64 (pre.length : Int)]
  below : Below w.heap.size w W
theorem SRun.turned {w : World} {A : Option Addr} {c : Nat} {L pre : List Ent} {W W' : World} {row : Option Nat} (h : SRun w A c L pre W) (hg : W.grownBy W' row) (hr : NoCells W row) (hb : ∀ k, row = some k → w.heap.size ≤ k) : SRun w A c L pre W' :=
  ⟨h.isPre, h.list.turned hg hr, h.res.turned hg hr, h.cnt.turned hg hr, h.below.grown hg h.below.size hb⟩
def SOut (w : World) (W : World) : Prop := Holds W (w.heap.size + 1) 4 #[.bool false] ∧ Below w.heap.size w W
theorem SOut.turned {w W W' : World} {row : Option Nat} (h : SOut w W) (hg : W.grownBy W' row) (hr : NoCells W row) (hb : ∀ k, row = some k → w.heap.size ≤ k) : SOut w W' :=
  ⟨h.1.turned hg hr, h.2.grown hg h.2.size hb⟩
theorem same_leaves {n : Nat} {w : World} {W : World} {tmps : Array Value} {v : Bool} {D : Nat} (h2 : Holds W (w.heap.size + 1) 4 #[.bool v]) (hb : Below w.heap.size w W)
    (hD : w.heap.size ≤ D) (hDk : W.heap[D]? = some (.deferred (some []))) (t4 : tmps.getD 4 undef = .pointer (some ⟨w.heap.size + 1, 0, none⟩)) :
    LeavesInM Fence.wide n Try.prog Try.f13 tmps (fun e w' => e = .returned (.bool v) ∧ Below w.heap.size w w') [mark D] .returning W := by
  refine leaves_marks (I := fun W => Holds W (w.heap.size + 1) 4 #[.bool v] ∧ Below w.heap.size w W) (lo := w.heap.size) (hi := D + 1) (fun W D' hD' hI hd => ?_) (fun W hI => ?_) [D] W ⟨by simp, fun E hE => by
    simp only [List.mem_cons, List.not_mem_nil, or_false] at hE
    subst hE
    exact ⟨hD, Nat.lt_succ_self _, hDk⟩⟩ ⟨h2, hb⟩
  · have hg := grownBy_putObj' W D' (.deferred none)
    exact ⟨hI.1.turned hg (fun k e => by cases e; exact ⟨_, hd, rfl⟩), hI.2.grown hg hI.2.size (fun k e => by cases e; exact hD')⟩
  · refine ⟨.bool v, ?_, rfl, hI.2⟩
    have c2 := hI.1.cell 0
    have t4' : tmps[4]?.getD undef = .pointer (some ⟨w.heap.size + 1, 0, none⟩) := by simpa using t4
    simp [results, Try.f13, go_sem, c2, t4']
theorem pre_next {L pre : List Ent} (h : pre <+: L) (hlt : pre.length < L.length) {x : Ent} (hx : L[pre.length]? = some x) : pre ++ [x] <+: L := by
  obtain ⟨r, rfl⟩ := h
  cases r with
  | nil => simp at hlt
  | cons a r =>
    simp at hx
    subst hx
    exact ⟨r, by simp⟩
theorem pre_only {L pre : List Ent} {x y : Ent} (h : pre ++ [x] <+: L) (hy : L[pre.length]? = some y) : y = x := by
  obtain ⟨r, rfl⟩ := h
  simpa using hy.symm
theorem Holds.drew {w : World} {g : Nat} {t : TypeId} {cs : Array Value} (h : Holds w g t cs) : Holds w.drew g t cs := h
set_option maxRecDepth 100000 in
set_option maxHeartbeats 4000000 in
theorem same_any (w : World) (q : Option Addr) (L : List Ent) (B : Nat) (A : Option Addr) (c : Nat) (h : Src w q L) (hr : TRow w B A L.length c L) :
    Calls Try.prog 13 #[.pointer q, .slice A L.length c] w fun e w' => e = .returned (.bool true) ∧ Below w.heap.size w w' := by
  refine (callsIn_wide (n := 4)).1 ?_
  refine callsIn_of_wp_marks Try.func13 rfl trivial ?_ rfl
  simp only [Try.ntmps13, List.size_toArray, List.length_cons, List.length_nil, Nat.reduceAdd, Nat.reduceSub, Array.replicate_succ, Array.replicate_zero, List.push_toArray, List.append_toArray, List.nil_append, List.cons_append]
  have h8 := h.le
  have HS := Lib.hid h
  have HRow := Lib.hid hr
  clear h hr
  gi_wp2_with (refine ⟨trivial, ?_⟩; gi_at_call 19; refine (callsIn_wide.2 (all_any _ q)).mono ?_; rintro e w' ⟨rfl, rfl⟩)
  have sR : ((((w.alloc (.cells #[.slice A L.length c] 38)).alloc (.cells #[.bool false] 4)).alloc (.cells #[.int .i64 0] 3)).alloc (.cells #[.pointer q] 30)).heap.size = w.heap.size + 4 := by simp
  have b0 : SRun w A c L [] ((((w.alloc (.cells #[.slice A L.length c] 38)).alloc (.cells #[.bool false] 4)).alloc (.cells #[.int .i64 0] 3)).alloc (.cells #[.pointer q] 30)) := by
    refine ⟨List.nil_prefix, (((Holds.new w _ _).alloc _).alloc _).alloc _, ?_, ?_, (((below_alloc w _).alloc (by simp) _).alloc (by simp; omega) _).alloc (by simp; omega) _⟩
    · have := ((Holds.new (w.alloc (.cells #[.slice A L.length c] 38)) 4 #[.bool false]).alloc (.cells #[.int .i64 0] 3)).alloc (.cells #[.pointer q] 30)
      rwa [size_alloc] at this
    · have := (Holds.new ((w.alloc (.cells #[.slice A L.length c] 38)).alloc (.cells #[.bool false] 4)) 3 #[.int .i64 0]).alloc (.cells #[.pointer q] 30)
      rwa [size_alloc, size_alloc] at this
  have cR := (Holds.new (((w.alloc (.cells #[.slice A L.length c] 38)).alloc (.cells #[.bool false] 4)).alloc (.cells #[.int .i64 0] 3)) 30 #[.pointer q]).cell 0
  rw [size_alloc, size_alloc, size_alloc] at cR
  have hS := HS.out.below b0.below
  obtain ⟨WR, hWR⟩ : ∃ WR, ((((w.alloc (.cells #[.slice A L.length c] 38)).alloc (.cells #[.bool false] 4)).alloc (.cells #[.int .i64 0] 3)).alloc (.cells #[.pointer q] 30)) = WR := ⟨_, rfl⟩
  rw [hWR] at b0 cR sR hS
  simp only [hWR]
  clear hWR
  refine range_boxed rfl (by omega) (gf := 20) (lb := #[.pointer (some ⟨w.heap.size + 1 + 1 + 1, 0, none⟩)]) rfl trivial (enters_of Try.func20 (by kernel_rfl) rfl)
    (all1_stops _ (by omega) (w.heap.size + 1 + 1 + 1) (w.heap.size + 4) q L WR hS cR (by omega)) kept_t (fun W l o o' hl => kept_b (by omega) W l o o' hl) (fun _ _ h => kept_below h) (Below.refl _ _) (fun _ => rfl)
    (fun (pre : List Ent) W => SRun w A c L pre W)
    (fun c pre W => c = .ret ∧ SOut w W ∧ ¬ pre <+: L)
    (fun s W W' row hs hg hr => hs.turned hg (fun k e => (hr k e).2) (fun k e => by have := (hr k e).1; omega))
    (fun c s W W' row hs hg hr => ⟨hs.1, hs.2.1.turned hg (fun k e => (hr k e).2) (fun k e => by have := (hr k e).1; omega), hs.2.2⟩)
    b0 26 (fun x => #[.int .i64 x.1, .int .i64 x.2.1, .int .i64 x.2.2]) ?a₁ ?assign ?body ?done ?stop
  case assign =>
    intro l y b W K hb hK
    simp only [entA]
    have HB := Lib.hid hb
    clear hb
    gi_wp2
    simp only [HB.out]
    exact hK
  case body =>
    rintro l pre y g W hl ⟨rc, hrc⟩ hrn he hlen
    obtain ⟨a, b, d⟩ := y
    dsimp only at he ⊢
    have c0 := hrn.list.cell 0
    have c2 := hrn.cnt.cell 0
    have f2 := hrn.cnt.soft 0
    have c1 := hrn.res.cell 0
    have f1 := hrn.res.soft 0
    have e0 := he.cell 0
    have e1 := he.cell 1
    have e2 := he.cell 2
    obtain ⟨x, hx⟩ : ∃ x, L[pre.length]? = some x := ⟨_, List.getElem?_eq_getElem hlen⟩
    obtain ⟨bl, off, rfl, q0, q1, q2⟩ := (HRow.out.below hrn.below).at hx
    have hnx := pre_next hrn.isPre hlen hx
    have hon := fun (h : pre ++ [(a, b, d)] <+: L) => pre_only h hx
    obtain ⟨X, Y, Z⟩ := x
    dsimp only at q0 q1 q2
    obtain ⟨N, hN⟩ : ∃ N, L.length = N := ⟨_, rfl⟩
    obtain ⟨m, hm⟩ : ∃ m, pre.length = m := ⟨_, rfl⟩
    rw [hN] at hlen h8
    rw [hm] at hlen
    have d1 : decide ((N : Int) ≤ (m : Int)) = false := decide_eq_false (by omega)
    have d2 : decide (N ≤ m) = false := decide_eq_false (by omega)
    have dlt : (m : Int) < (N : Int) := by omega
    have dlt2 : m < N := hlen
    have ew := IntWalk.i64_in ((m : Int) + 1) (by omega)
    have hch := Chg.set (S := fun k => k = w.heap.size + 2) W.drew (w.heap.size + 2) 0 (.int .i64 ((m : Int) + 1)) rfl
    have hbd : Below W.heap.size W W.drew := (Below.refl _ _).drew
    by_cases hxy : (X, Y, Z) = (a, b, d)
    · simp only [Prod.mk.injEq] at hxy
      obtain ⟨rfl, rfl, rfl⟩ := hxy
      have HR := Lib.hid (show SRun w (some ⟨bl, off, none⟩) c L (pre ++ [(X, Y, Z)]) (W.drew.setCell ⟨w.heap.size + 2, 0, none⟩ (.int .i64 ((m : Int) + 1))) from
        ⟨hnx, hrn.list.drew.far (by omega) _, hrn.res.drew.far (by omega) _, by have := hrn.cnt.drew.put 0 (.int .i64 ((m : Int) + 1)); rw [List.length_append, hm]; simpa using this, (hrn.below.drew).setCell (p := ⟨w.heap.size + 2, 0, none⟩) (by show w.heap.size ≤ w.heap.size + 2; omega) _⟩)
      have HK := Lib.hid (show Kept (w.heap.size + 4) W (W.drew.setCell ⟨w.heap.size + 2, 0, none⟩ (.int .i64 ((m : Int) + 1))) from kept_t (kept_below hbd) (kept_chg hch (fun k hk => by omega)))
      have HO := Lib.hid (show KeepsFrom WR.heap.size W (W.drew.setCell ⟨w.heap.size + 2, 0, none⟩ (.int .i64 ((m : Int) + 1))) from ((others_of_below hbd).trans (KeepsOthers.setCell W.drew ⟨w.heap.size + 2, 0, none⟩ (.int .i64 ((m : Int) + 1)))).from _)
      rw [hN] at c0
      rw [hm] at c2 q0 q1 q2
      have HCS := Lib.hid (And.intro c0 (And.intro c2 (And.intro e0 (And.intro e1 (And.intro e2 (And.intro q0 (And.intro q1 q2)))))))
      clear hrn hch hnx hon hx hN hm hlen he
      gi_wp2
      refine round_turns (fun (w' : World) => w'.cell? ⟨w.heap.size, 0, none⟩ = some (.slice (some ⟨bl, off, none⟩) N c) ∧ w'.cell? ⟨w.heap.size + 2, 0, none⟩ = some (.int .i64 (m : Int)) ∧ w'.cell? ⟨g, 0, none⟩ = some (.int .i64 X) ∧ w'.cell? ⟨g, 1, none⟩ = some (.int .i64 Y) ∧ w'.cell? ⟨g, 2, none⟩ = some (.int .i64 Z) ∧ w'.cell? ⟨bl, off + m * 3, none⟩ = some (.int .i64 X) ∧ w'.cell? ⟨bl, off + m * 3 + 1, none⟩ = some (.int .i64 Y) ∧ w'.cell? ⟨bl, off + m * 3 + 2, none⟩ = some (.int .i64 Z)) (fun j => decide (12 ≤ j)) (by kernel_rfl) (by kernel_rfl) (by rintro ⟨_, _, h⟩; exact h) (HCS.out) (fun hS => ?_)
      refine Turns.take hS 0 _ rfl (by kernel_rfl) (by kernel_rfl) (by kernel_rfl) (by kernel_rfl) (fun _ _ _ h => h) (by rfl) (fun w' hS' => by (try dsimp only at hS'); go_split_ands; go_simp; (try with_reducible rfl)) ?_
      simp only [Act.put, List.getElem_toArray, List.getElem_cons_succ, List.getElem_cons_zero, List.setIfInBounds_toArray, List.set_cons_zero, List.set_cons_succ]
      refine Turns.take hS 1 _ rfl (by kernel_rfl) (by kernel_rfl) (by kernel_rfl) (by kernel_rfl) (fun _ _ _ h => h) (by rfl) (fun w' hS' => by (try dsimp only at hS'); go_split_ands; go_simp; (try with_reducible rfl)) ?_
      simp only [Act.put, List.getElem_toArray, List.getElem_cons_succ, List.getElem_cons_zero, List.setIfInBounds_toArray, List.set_cons_zero, List.set_cons_succ]
      refine Turns.take hS 2 _ rfl (by kernel_rfl) (by kernel_rfl) (by kernel_rfl) (by kernel_rfl) (fun _ _ _ h => h) (by rfl) (fun w' hS' => by (try dsimp only at hS'); go_split_ands; go_simp; (try with_reducible rfl)) ?_
      simp only [Act.put, List.getElem_toArray, List.getElem_cons_succ, List.getElem_cons_zero, List.setIfInBounds_toArray, List.set_cons_zero, List.set_cons_succ]
      refine Turns.take hS 3 _ rfl (by kernel_rfl) (by kernel_rfl) (by kernel_rfl) (by kernel_rfl) (fun _ _ _ h => h) (by rfl) (fun w' hS' => by (try dsimp only at hS'); go_split_ands; go_simp; (try with_reducible rfl)) ?_
      simp only [Act.put, List.getElem_toArray, List.getElem_cons_succ, List.getElem_cons_zero, List.setIfInBounds_toArray, List.set_cons_zero, List.set_cons_succ]
      refine Turns.take hS 4 _ rfl (by kernel_rfl) (by kernel_rfl) (by kernel_rfl) (by kernel_rfl) (fun _ _ _ h => h) (by rfl) (fun w' hS' => by (try dsimp only at hS'); go_split_ands; go_simp; (try with_reducible rfl)) ?_
      simp only [Act.put, List.getElem_toArray, List.getElem_cons_succ, List.getElem_cons_zero, List.setIfInBounds_toArray, List.set_cons_zero, List.set_cons_succ]
      refine Turns.take hS 5 _ rfl (by kernel_rfl) (by kernel_rfl) (by kernel_rfl) (by kernel_rfl) (fun _ _ _ h => h) (by rfl) (fun w' hS' => by (try dsimp only at hS'); go_split_ands; go_simp; (try with_reducible rfl)) ?_
      simp only [Act.put, List.getElem_toArray, List.getElem_cons_succ, List.getElem_cons_zero, List.setIfInBounds_toArray, List.set_cons_zero, List.set_cons_succ]
      refine Turns.take hS 6 _ rfl (by kernel_rfl) (by kernel_rfl) (by kernel_rfl) (by kernel_rfl) (fun _ _ _ h => h) (by rfl) (fun w' hS' => by (try dsimp only at hS'); go_split_ands; go_simp; (try with_reducible rfl)) ?_
      simp only [Act.put, List.getElem_toArray, List.getElem_cons_succ, List.getElem_cons_zero, List.setIfInBounds_toArray, List.set_cons_zero, List.set_cons_succ]
      refine Turns.take hS 7 _ rfl (by kernel_rfl) (by kernel_rfl) (by kernel_rfl) (by kernel_rfl) (fun _ _ _ h => h) (by rfl) (fun w' hS' => by (try dsimp only at hS'); go_split_ands; go_simp; (try with_reducible rfl)) ?_
      simp only [Act.put, List.getElem_toArray, List.getElem_cons_succ, List.getElem_cons_zero, List.setIfInBounds_toArray, List.set_cons_zero, List.set_cons_succ]
      refine Turns.take hS 8 _ rfl (by kernel_rfl) (by kernel_rfl) (by kernel_rfl) (by kernel_rfl) (fun _ _ _ h => h) (by rfl) (fun w' hS' => by (try dsimp only at hS'); go_split_ands; go_simp; (try with_reducible rfl)) ?_
      simp only [Act.put, List.getElem_toArray, List.getElem_cons_succ, List.getElem_cons_zero, List.setIfInBounds_toArray, List.set_cons_zero, List.set_cons_succ]
      refine Turns.take hS 9 _ rfl (by kernel_rfl) (by kernel_rfl) (by kernel_rfl) (by kernel_rfl) (fun _ _ _ h => h) (by rfl) (fun w' hS' => by (try dsimp only at hS'); go_split_ands; go_simp; (try with_reducible rfl)) ?_
      simp only [Act.put, List.getElem_toArray, List.getElem_cons_succ, List.getElem_cons_zero, List.setIfInBounds_toArray, List.set_cons_zero, List.set_cons_succ]
      refine Turns.take hS 10 _ rfl (by kernel_rfl) (by kernel_rfl) (by kernel_rfl) (by kernel_rfl) (fun _ _ _ h => h) (by rfl) (fun w' hS' => by (try dsimp only at hS'); go_split_ands; go_simp; (try with_reducible rfl)) ?_
      simp only [Act.put, List.getElem_toArray, List.getElem_cons_succ, List.getElem_cons_zero, List.setIfInBounds_toArray, List.set_cons_zero, List.set_cons_succ]
      refine Turns.take hS 11 _ rfl (by kernel_rfl) (by kernel_rfl) (by kernel_rfl) (by kernel_rfl) (fun _ _ _ h => h) (by rfl) (fun w' hS' => by (try dsimp only at hS'); go_split_ands; go_simp; (try with_reducible rfl)) ?_
      simp only [Act.put, List.getElem_toArray, List.getElem_cons_succ, List.getElem_cons_zero, List.setIfInBounds_toArray, List.set_cons_zero, List.set_cons_succ]
      refine Turns.rest (late_done (by kernel_rfl)) ?_
      refine any_tail 12 (by rfl) (by kernel_rfl) ?_
      simp only [List.drop_succ_cons, List.drop_zero]
      clear hS
      go_wp2
      gi_wp2
      exact ⟨HO.out, HK.out, HR.out⟩
    · have HR := Lib.hid (show SOut w (W.drew.setCell ⟨w.heap.size + 1, 0, none⟩ (.bool false)) from ⟨hrn.res.drew.put 0 _, hrn.below.drew.setCell (p := ⟨w.heap.size + 1, 0, none⟩) (by show w.heap.size ≤ w.heap.size + 1; omega) _⟩)
      have HO := Lib.hid (show KeepsFrom WR.heap.size W (W.drew.setCell ⟨w.heap.size + 1, 0, none⟩ (.bool false)) from ((others_of_below hbd).trans (KeepsOthers.setCell W.drew ⟨w.heap.size + 1, 0, none⟩ (.bool false))).from _)
      have HN := Lib.hid (show ¬ pre ++ [(a, b, d)] <+: L from fun h => hxy (hon h))
      have hne : (¬ a = X) ∨ (a = X ∧ ¬ b = Y) ∨ (a = X ∧ b = Y ∧ ¬ d = Z) := by
        by_cases h1 : a = X
        · by_cases h2 : b = Y
          · exact .inr (.inr ⟨h1, h2, fun h3 => hxy (by rw [h1, h2, h3])⟩)
          · exact .inr (.inl ⟨h1, h2⟩)
        · exact .inl h1
      rw [hN] at c0
      rw [hm] at c2 q0 q1 q2
      have HCS := Lib.hid (And.intro c0 (And.intro c2 (And.intro e0 (And.intro e1 (And.intro e2 (And.intro q0 (And.intro q1 q2)))))))
      clear hrn hch hnx hon hx hN hm hlen he hxy
      rcases hne with h1 | ⟨rfl, h1⟩ | ⟨rfl, rfl, h1⟩
      all_goals
        gi_wp2
        refine round_turns (fun (w' : World) => w'.cell? ⟨w.heap.size, 0, none⟩ = some (.slice (some ⟨bl, off, none⟩) N c) ∧ w'.cell? ⟨w.heap.size + 2, 0, none⟩ = some (.int .i64 (m : Int)) ∧ w'.cell? ⟨g, 0, none⟩ = some (.int .i64 _) ∧ w'.cell? ⟨g, 1, none⟩ = some (.int .i64 _) ∧ w'.cell? ⟨g, 2, none⟩ = some (.int .i64 _) ∧ w'.cell? ⟨bl, off + m * 3, none⟩ = some (.int .i64 _) ∧ w'.cell? ⟨bl, off + m * 3 + 1, none⟩ = some (.int .i64 _) ∧ w'.cell? ⟨bl, off + m * 3 + 2, none⟩ = some (.int .i64 _)) (fun j => decide (12 ≤ j)) (by kernel_rfl) (by kernel_rfl) (by rintro ⟨_, _, h⟩; exact h) (HCS.out) (fun hS => ?_)
        refine Turns.take hS 0 _ rfl (by kernel_rfl) (by kernel_rfl) (by kernel_rfl) (by kernel_rfl) (fun _ _ _ h => h) (by rfl) (fun w' hS' => by (try dsimp only at hS'); go_split_ands; go_simp; (try with_reducible rfl)) ?_
        simp only [Act.put, List.getElem_toArray, List.getElem_cons_succ, List.getElem_cons_zero, List.setIfInBounds_toArray, List.set_cons_zero, List.set_cons_succ]
        refine Turns.take hS 1 _ rfl (by kernel_rfl) (by kernel_rfl) (by kernel_rfl) (by kernel_rfl) (fun _ _ _ h => h) (by rfl) (fun w' hS' => by (try dsimp only at hS'); go_split_ands; go_simp; (try with_reducible rfl)) ?_
        simp only [Act.put, List.getElem_toArray, List.getElem_cons_succ, List.getElem_cons_zero, List.setIfInBounds_toArray, List.set_cons_zero, List.set_cons_succ]
        refine Turns.take hS 2 _ rfl (by kernel_rfl) (by kernel_rfl) (by kernel_rfl) (by kernel_rfl) (fun _ _ _ h => h) (by rfl) (fun w' hS' => by (try dsimp only at hS'); go_split_ands; go_simp; (try with_reducible rfl)) ?_
        simp only [Act.put, List.getElem_toArray, List.getElem_cons_succ, List.getElem_cons_zero, List.setIfInBounds_toArray, List.set_cons_zero, List.set_cons_succ]
        refine Turns.take hS 3 _ rfl (by kernel_rfl) (by kernel_rfl) (by kernel_rfl) (by kernel_rfl) (fun _ _ _ h => h) (by rfl) (fun w' hS' => by (try dsimp only at hS'); go_split_ands; go_simp; (try with_reducible rfl)) ?_
        simp only [Act.put, List.getElem_toArray, List.getElem_cons_succ, List.getElem_cons_zero, List.setIfInBounds_toArray, List.set_cons_zero, List.set_cons_succ]
        refine Turns.take hS 4 _ rfl (by kernel_rfl) (by kernel_rfl) (by kernel_rfl) (by kernel_rfl) (fun _ _ _ h => h) (by rfl) (fun w' hS' => by (try dsimp only at hS'); go_split_ands; go_simp; (try with_reducible rfl)) ?_
        simp only [Act.put, List.getElem_toArray, List.getElem_cons_succ, List.getElem_cons_zero, List.setIfInBounds_toArray, List.set_cons_zero, List.set_cons_succ]
        refine Turns.take hS 5 _ rfl (by kernel_rfl) (by kernel_rfl) (by kernel_rfl) (by kernel_rfl) (fun _ _ _ h => h) (by rfl) (fun w' hS' => by (try dsimp only at hS'); go_split_ands; go_simp; (try with_reducible rfl)) ?_
        simp only [Act.put, List.getElem_toArray, List.getElem_cons_succ, List.getElem_cons_zero, List.setIfInBounds_toArray, List.set_cons_zero, List.set_cons_succ]
        refine Turns.take hS 6 _ rfl (by kernel_rfl) (by kernel_rfl) (by kernel_rfl) (by kernel_rfl) (fun _ _ _ h => h) (by rfl) (fun w' hS' => by (try dsimp only at hS'); go_split_ands; go_simp; (try with_reducible rfl)) ?_
        simp only [Act.put, List.getElem_toArray, List.getElem_cons_succ, List.getElem_cons_zero, List.setIfInBounds_toArray, List.set_cons_zero, List.set_cons_succ]
        refine Turns.take hS 7 _ rfl (by kernel_rfl) (by kernel_rfl) (by kernel_rfl) (by kernel_rfl) (fun _ _ _ h => h) (by rfl) (fun w' hS' => by (try dsimp only at hS'); go_split_ands; go_simp; (try with_reducible rfl)) ?_
        simp only [Act.put, List.getElem_toArray, List.getElem_cons_succ, List.getElem_cons_zero, List.setIfInBounds_toArray, List.set_cons_zero, List.set_cons_succ]
        refine Turns.take hS 8 _ rfl (by kernel_rfl) (by kernel_rfl) (by kernel_rfl) (by kernel_rfl) (fun _ _ _ h => h) (by rfl) (fun w' hS' => by (try dsimp only at hS'); go_split_ands; go_simp; (try with_reducible rfl)) ?_
        simp only [Act.put, List.getElem_toArray, List.getElem_cons_succ, List.getElem_cons_zero, List.setIfInBounds_toArray, List.set_cons_zero, List.set_cons_succ]
        refine Turns.take hS 9 _ rfl (by kernel_rfl) (by kernel_rfl) (by kernel_rfl) (by kernel_rfl) (fun _ _ _ h => h) (by rfl) (fun w' hS' => by (try dsimp only at hS'); go_split_ands; go_simp; (try with_reducible rfl)) ?_
        simp only [Act.put, List.getElem_toArray, List.getElem_cons_succ, List.getElem_cons_zero, List.setIfInBounds_toArray, List.set_cons_zero, List.set_cons_succ]
        refine Turns.take hS 10 _ rfl (by kernel_rfl) (by kernel_rfl) (by kernel_rfl) (by kernel_rfl) (fun _ _ _ h => h) (by rfl) (fun w' hS' => by (try dsimp only at hS'); go_split_ands; go_simp; (try with_reducible rfl)) ?_
        simp only [Act.put, List.getElem_toArray, List.getElem_cons_succ, List.getElem_cons_zero, List.setIfInBounds_toArray, List.set_cons_zero, List.set_cons_succ]
        refine Turns.take hS 11 _ rfl (by kernel_rfl) (by kernel_rfl) (by kernel_rfl) (by kernel_rfl) (fun _ _ _ h => h) (by rfl) (fun w' hS' => by (try dsimp only at hS'); go_split_ands; go_simp; (try with_reducible rfl)) ?_
        simp only [Act.put, List.getElem_toArray, List.getElem_cons_succ, List.getElem_cons_zero, List.setIfInBounds_toArray, List.set_cons_zero, List.set_cons_succ]
        refine Turns.rest (late_done (by kernel_rfl)) ?_
        refine any_tail 12 (by rfl) (by kernel_rfl) ?_
        simp only [List.drop_succ_cons, List.drop_zero]
        clear hS
        go_wp2
        gi_wp2
        exact ⟨HO.out, rfl, HR.out, HN.out⟩
  case done =>
    rintro D ys W hD rfl hrn hDk
    have c0 := hrn.list.cell 0
    have c2 := hrn.cnt.cell 0
    have c1 := hrn.res.cell 0
    have f1 := hrn.res.soft 0
    have HP := Lib.hid (show Holds (W.setCell ⟨w.heap.size + 1, 0, none⟩ (.bool true)) (w.heap.size + 1) 4 #[.bool true] from hrn.res.put 0 _)
    have HB := Lib.hid (hrn.below.setCell (p := ⟨w.heap.size + 1, 0, none⟩) (by show w.heap.size ≤ w.heap.size + 1; omega) (.bool true))
    have HD := Lib.hid ((KeepsOthers.setCell W ⟨w.heap.size + 1, 0, none⟩ (.bool true)).same D _ hDk rfl)
    clear hrn hDk
    gi_wp2
    exact same_leaves HP.out HB.out (by omega) HD.out rfl
  case stop =>
    rintro D c pre W hD hpre ⟨rfl, hout, h2⟩ hDk
    exact absurd hpre h2
/-- Between two entries that first counts. -/
structure FRun (w : World) (most : Int) (pre : List Ent) (W : World) : Prop where
  most : Holds W w.heap.size 3 #[.int .i64 most]
  cnt : Holds W (w.heap.size + 1) 3 #[.int .i64 (pre.length : Int)]
  below : Below w.heap.size w W
theorem FRun.turned {w : World} {most : Int} {pre : List Ent} {W W' : World} {row : Option Nat} (h : FRun w most pre W) (hg : W.grownBy W' row) (hr : NoCells W row) (hb : ∀ k, row = some k → w.heap.size ≤ k) : FRun w most pre W' :=
  ⟨h.most.turned hg hr, h.cnt.turned hg hr, h.below.grown hg h.below.size hb⟩
theorem first_leaves {n : Nat} {w : World} {W : World} {tmps : Array Value} {v : Int} {D : Nat} (hb : Below w.heap.size w W)
    (hD : w.heap.size ≤ D) (hDk : W.heap[D]? = some (.deferred (some []))) (t4 : tmps.getD 4 undef = .int .i64 v) :
    LeavesInM Fence.wide n Try.prog Try.f18 tmps (fun e w' => e = .returned (.int .i64 v) ∧ Below w.heap.size w w') [mark D] .returning W := by
  refine leaves_marks (I := fun W => Below w.heap.size w W) (lo := w.heap.size) (hi := D + 1) (fun W D' hD' hI hd => ?_) (fun W hI => ?_) [D] W ⟨by simp, fun E hE => by
    simp only [List.mem_cons, List.not_mem_nil, or_false] at hE
    subst hE
    exact ⟨hD, Nat.lt_succ_self _, hDk⟩⟩ hb
  · have hg := grownBy_putObj' W D' (.deferred none)
    exact hI.grown hg hI.size (fun k e => by cases e; exact hD')
  · refine ⟨.int .i64 v, ?_, rfl, hI⟩
    have t4' : tmps[4]?.getD undef = .int .i64 v := by simpa using t4
    simp [results, Try.f18, go_sem, t4']
set_option maxRecDepth 100000 in
set_option maxHeartbeats 4000000 in
theorem first_any (w : World) (q : Option Addr) (L : List Ent) (most : Int) (h1 : 1 ≤ most) (h : Src w q L) :
    Calls Try.prog 18 #[.pointer q, .int .i64 most] w fun e w' => e = .returned (.int .i64 (if (L.length : Int) < most then (L.length : Int) else most)) ∧ Below w.heap.size w w' := by
  obtain ⟨V, hV⟩ : ∃ V : Int, (if (L.length : Int) < most then (L.length : Int) else most) = V := ⟨_, rfl⟩
  rw [hV]
  have HV := Lib.hid hV
  clear hV
  have h64 := h.le
  have HS := Lib.hid h
  clear h
  refine (callsIn_wide (n := 4)).1 ?_
  refine callsIn_of_wp_marks Try.func18 rfl trivial ?_ rfl
  simp only [Try.ntmps18, List.size_toArray, List.length_cons, List.length_nil, Nat.reduceAdd, Nat.reduceSub, Array.replicate_succ, Array.replicate_zero, List.push_toArray, List.append_toArray, List.nil_append, List.cons_append]
  gi_wp2_with (refine ⟨trivial, ?_⟩; gi_at_call 19; refine (callsIn_wide.2 (all_any _ q)).mono ?_; rintro e w' ⟨rfl, rfl⟩)
  have sR : (((w.alloc (.cells #[.int .i64 most] 3)).alloc (.cells #[.int .i64 0] 3)).alloc (.cells #[.pointer q] 30)).heap.size = w.heap.size + 3 := by simp
  have b0 : FRun w most [] (((w.alloc (.cells #[.int .i64 most] 3)).alloc (.cells #[.int .i64 0] 3)).alloc (.cells #[.pointer q] 30)) := by
    refine ⟨((Holds.new w _ _).alloc _).alloc _, ?_, ((below_alloc w _).alloc (by simp) _).alloc (by simp; omega) _⟩
    have := (Holds.new (w.alloc (.cells #[.int .i64 most] 3)) 3 #[.int .i64 0]).alloc (.cells #[.pointer q] 30)
    rwa [size_alloc] at this
  have cR := (Holds.new ((w.alloc (.cells #[.int .i64 most] 3)).alloc (.cells #[.int .i64 0] 3)) 30 #[.pointer q]).cell 0
  rw [size_alloc, size_alloc] at cR
  obtain ⟨WR, hWR⟩ : ∃ WR, (((w.alloc (.cells #[.int .i64 most] 3)).alloc (.cells #[.int .i64 0] 3)).alloc (.cells #[.pointer q] 30)) = WR := ⟨_, rfl⟩
  have hS := HS.out.below b0.below
  rw [hWR] at b0 cR sR hS
  simp only [hWR]
  clear hWR
  refine range_outer rfl (by omega) (gf := 20) (lb := #[.pointer (some ⟨w.heap.size + 1 + 1, 0, none⟩)]) rfl trivial (enters_of Try.func20 (by kernel_rfl) rfl)
    (all1_stops _ (by omega) (w.heap.size + 1 + 1) (w.heap.size + 3) q L WR hS cR (by omega)) kept_t (fun W l o o' hl => kept_b (by omega) W l o o' hl) (kept_r _) (Below.refl _ _) (fun _ => rfl)
    (fun (pre : List Ent) W => FRun w most pre W ∧ (pre.length : Int) < most)
    (fun c pre W => c = .exit 0 ∧ FRun w most pre W ∧ (pre.length : Int) = most)
    (fun s W W' row hs hg hr => ⟨hs.1.turned hg (fun k e => (hr k e).2) (fun k e => by have := (hr k e).1; omega), hs.2⟩)
    (fun c s W W' row hs hg hr => ⟨hs.1, hs.2.1.turned hg (fun k e => (hr k e).2) (fun k e => by have := (hr k e).1; omega), hs.2.2⟩)
    ⟨b0, by simp; omega⟩ ?a₁ ?assign ?body ?done ?stop
  case assign =>
    intro l y W K hK
    simp only [entA]
    gi_wp2
    exact hK
  case body =>
    rintro l pre y W hl ⟨rc, hrc⟩ ⟨hrn, hlt⟩ hlen
    have c0 := hrn.most.cell 0
    have c2 := hrn.cnt.cell 0
    have f2 := hrn.cnt.soft 0
    have hle : (pre ++ [y]).length = pre.length + 1 := by simp
    have HR0 := fun (m : Nat) (hm : pre.length = m) => (show FRun w most (pre ++ [y]) (W.setCell ⟨w.heap.size + 1, 0, none⟩ (.int .i64 ((m : Int) + 1))) from
      ⟨hrn.most.far (by omega) _, by have := hrn.cnt.put 0 (.int .i64 ((m : Int) + 1)); rw [hle, hm]; simpa using this, hrn.below.setCell (p := ⟨w.heap.size + 1, 0, none⟩) (by show w.heap.size ≤ w.heap.size + 1; omega) _⟩)
    obtain ⟨m, hm⟩ : ∃ m, pre.length = m := ⟨_, rfl⟩
    have HR := Lib.hid (HR0 m hm)
    rw [hm] at c2 hlt hle
    have ew := IntWalk.i64_in ((m : Int) + 1) (by omega)
    have hch := Chg.set (S := fun k => k = w.heap.size + 1) W (w.heap.size + 1) 0 (.int .i64 ((m : Int) + 1)) rfl
    have HK := Lib.hid (show Kept (w.heap.size + 3) W (W.setCell ⟨w.heap.size + 1, 0, none⟩ (.int .i64 ((m : Int) + 1))) from kept_chg hch (fun k hk => by omega))
    have HO := Lib.hid (show KeepsFrom WR.heap.size W (W.setCell ⟨w.heap.size + 1, 0, none⟩ (.int .i64 ((m : Int) + 1))) from (KeepsOthers.setCell W ⟨w.heap.size + 1, 0, none⟩ (.int .i64 ((m : Int) + 1))).from _)
    have HLe := Lib.hid hle
    clear HR0 hrn hch hm hlen hle
    by_cases hs : (m : Int) + 1 < most
    · have d1 : decide (most ≤ (m : Int) + 1) = false := decide_eq_false (by omega)
      gi_wp2
      exact ⟨by first | exact HO.out | (rw [← sR]; exact HO.out), HK.out, HR.out, by rw [HLe.out]; omega⟩
    · have d1 : decide (most ≤ (m : Int) + 1) = true := decide_eq_true (by omega)
      gi_wp2
      exact ⟨by first | exact HO.out | (rw [← sR]; exact HO.out), rfl, HR.out, by rw [HLe.out]; omega⟩
  case done =>
    rintro D ys W hD rfl ⟨hrn, hlt⟩ hDk
    have c2 := hrn.cnt.cell 0
    have hB := hrn.below
    have hif : V = (ys.length : Int) := by rw [← HV.out]; exact if_pos hlt
    have HIf := Lib.hid hif
    clear hrn hlt hif HV
    gi_wp2
    rw [HIf.out]
    exact first_leaves hB (by omega) hDk rfl
  case stop =>
    rintro D c pre W hD hpre ⟨rfl, hrn, h2⟩ hDk
    have c2 := hrn.cnt.cell 0
    have hB := hrn.below
    have hle := hpre.length_le
    have hif : V = most := by rw [← HV.out]; exact if_neg (by omega)
    have HIf := Lib.hid hif
    have c2' : W.cell? ⟨w.heap.size + 1, 0, none⟩ = some (.int .i64 most) := by rw [c2, h2]; rfl
    clear hrn hif h2 hle c2 HV
    gi_wp2
    rw [HIf.out]
    exact first_leaves hB (by omega) hDk rfl
end Go.Proofs.Ytfeemjkjgbjejaa
