/- The law's same: a row goes over just what the document's has, in order. -/
import Derived.Test.YtfpjicmmnhcfcaaTrE
namespace Go.Proofs.Ytfpjicmmnhcfcaa
open Go.RowKit Go.Shelf
attribute [local go_sem] Oper.semAt_some
set_option linter.unusedVariables false

theorem Rr.turn {w w' : World} {B g : Nat} {v : Value} {M : List One3} {T : Int} {row : Option Nat} (h : Rr w B g v M T) (hg : w.grownBy w' row) (hr : ∀ r, row = some r → ∃ o : Obj, w.heap[r]? = some o ∧ o.isCells = false) : Rr w' B g v M T := by
  have hh := h
  obtain ⟨_, _, A, c, rfl, hh, he⟩ := hh
  refine h.chg (Chg.of_grown (S := fun k => row = some k) hg (fun k hk => hk)) (fun e => ?_) (fun q hq e => ?_)
  · obtain ⟨o, ho, hc⟩ := hr _ e
    rw [show w.heap[g]? = _ from hh] at ho
    cases ho
    cases hc
  · obtain ⟨o, ho, hc⟩ := hr _ e
    rcases own_open he with ⟨e', _⟩ | ⟨g', cap, cur, e', _, hH, _⟩
    · rw [e'] at hq
      cases hq
    · rw [e'] at hq
      simp [Value.ownBlock] at hq
      subst hq
      rw [show w.heap[g']? = _ from hH] at ho
      cases ho
      cases hc
theorem Holds.turn {w w' : World} {g : Nat} {t : TypeId} {cs : Array Value} {row : Option Nat} (h : Holds w g t cs) (hg : w.grownBy w' row) (hr : ∀ r, row = some r → ∃ o : Obj, w.heap[r]? = some o ∧ o.isCells = false) : Holds w' g t cs :=
  h.grown hg (fun e => by
    obtain ⟨o, ho, hc⟩ := hr _ e.symm
    rw [show w.heap[g]? = _ from h] at ho
    cases ho
    cases hc)
theorem others_chg {w w' : World} {g : Nat} {t : TypeId} {cs : Array Value} (h : Holds w g t cs) (hc : Chg (fun k => k = g) w w') : KeepsOthers w w' :=
  ⟨hc.size, fun k o hk ho => (hc.block k (Array.getElem?_eq_some_iff.1 hk).1 (fun e => by
    subst e
    rw [show w.heap[k]? = _ from h] at hk
    cases hk
    cases ho)).trans hk⟩
theorem others_below {w w' : World} (h : Below w.heap.size w w') : KeepsOthers w w' := ⟨h.size, fun k o hk _ => (h.block k (Array.getElem?_eq_some_iff.1 hk).1).trans hk⟩
theorem new_chg {n g : Nat} {w w' : World} (hc : Chg (fun k => k = g) w w') (hg : g < n) : KeepNew n w w' := ⟨hc.size, fun k cs t fr hk hcs => hc.block k (Array.getElem?_eq_some_iff.1 hcs).1 (fun e => by omega)⟩
theorem new_below {n : Nat} {w w' : World} (h : Below w.heap.size w w') : KeepNew n w w' := ⟨h.size, fun k cs t fr _ hcs => h.block k (Array.getElem?_eq_some_iff.1 hcs).1⟩
/-- Between two rounds. -/
def Going (B gm : Nat) (L : List (Int × Int)) (T : Int) (w : World) (pre : List (Int × Int)) (W : World) : Prop :=
  (∃ rest v2 N, L = pre ++ rest ∧ Rr W B gm v2 N 0 ∧ Rel rest N T) ∧ Holds W (gm + 1) 4 #[.bool false]
theorem going_own (B gm : Nat) (L : List (Int × Int)) (T : Int) (w : World) : Own (Going B gm L T w) := fun s A C row hs hg hr => by
  obtain ⟨⟨rest, v2, N, h1, h2, h3⟩, h4⟩ := hs
  exact ⟨⟨rest, v2, N, h1, h2.turn hg hr, h3⟩, h4.turn hg hr⟩
/-- What First answers, where e is due first. -/
theorem first_spot {W w2 : World} {B gm : Nat} {v2 : Value} {N : List One3} {T U r : Int} {e : Int × Int} {R : List (Int × Int)} (hR : Rr W B gm v2 N U) (hrel : Rel (e :: R) N T) (hb : Below W.heap.size W w2) (hr : IsFirst N r) :
    ∃ (j q c2 : Nat), r = j ∧ j < N.length ∧ v2 = .slice (some ⟨q, 0, none⟩) N.length c2 ∧ N.length ≤ c2 ∧ c2 ≤ 9223372036854775807 ∧ w2.cell? ⟨gm, 0, none⟩ = some v2 ∧ w2.cell? ⟨q, j * 3, none⟩ = some (.int .i64 e.1) ∧ w2.cell? ⟨q, j * 3 + 1, none⟩ = some (.int .i64 e.2) := by
  obtain ⟨j, hj, rfl, hpl⟩ := hrel.first hr
  obtain ⟨q, c2, e1, e2, e3, e4, e5, e6, e7⟩ := (hR.below hb).spot hj
  exact ⟨j, q, c2, rfl, hj, e1, e2, e3, e5, by rw [e6, show (N.getD j (0, 0, 0)).1 = e.1 from congrArg Prod.fst hpl], by rw [e7, show (N.getD j (0, 0, 0)).2.1 = e.2 from congrArg Prod.snd hpl]⟩
theorem not_next {pre R : List (Int × Int)} {e x : Int × Int} (h : e ≠ x) : ¬ (pre ++ [x]) <+: (pre ++ e :: R) := fun hp => by
  rw [List.prefix_append_right_inj] at hp
  have := (List.cons_prefix_cons.1 hp).1
  exact h this.symm
theorem not_end {pre : List (Int × Int)} {x : Int × Int} : ¬ (pre ++ [x]) <+: (pre ++ []) := fun hp => by
  rw [List.prefix_append_right_inj] at hp
  have := hp.length_le
  simp at this

set_option maxRecDepth 100000 in
set_option maxHeartbeats 4000000 in
theorem same_any (w : World) (B g B2 : Nat) (v : Value) (L : List (Int × Int)) (A : Option Addr) (c : Nat) (M : List One3) (T : Int) (h : Tm w B g v L) (he : Ones w B2 A M.length c M) (hB2 : B2 ≤ w.heap.size) (h16 : M.length ≤ 16) (hrel : Rel L M T) :
    Calls Try.prog 15 #[.pointer (some ⟨g, 0, none⟩), .agg #[.slice A M.length c, .int .i64 0]] w fun e w' => e = .returned (.bool true) ∧ Below w.heap.size w w' := by
  refine (callsIn_wide (n := 4)).1 ?_
  refine callsIn_of_wp_marks Try.func15 rfl trivial ?_ rfl
  simp only [Try.ntmps15, List.size_toArray, List.length_cons, List.length_nil, Nat.reduceAdd, Nat.reduceSub, Array.replicate_succ, Array.replicate_zero, List.push_toArray, List.append_toArray, List.nil_append, List.cons_append]
  have H := Lib.hid h
  have HE := Lib.hid he
  have HR := Lib.hid hrel
  clear h he hrel
  gi_wp2_with (refine ⟨trivial, ?_⟩; gi_at_call 24; refine (callsIn_wide.2 (all_any _ _)).mono ?_; rintro e w' ⟨rfl, rfl⟩)
  have hb0 : Below w.heap.size w ((w.alloc (.cells #[.slice A M.length c, .int .i64 0] 31)).alloc (.cells #[.bool false] 4)) := (below_alloc w _).alloc (by simp) _
  have hb1 := hb0.alloc (by simp; omega) (.cells #[.pointer (some ⟨g, 0, none⟩)] 27)
  have k1 := ((Holds.new w 31 #[.slice A M.length c, .int .i64 0]).alloc (.cells #[.bool false] 4)).alloc (.cells #[.pointer (some ⟨g, 0, none⟩)] 27)
  have k2 := (Holds.new (w.alloc (.cells #[.slice A M.length c, .int .i64 0] 31)) 4 #[.bool false]).alloc (.cells #[.pointer (some ⟨g, 0, none⟩)] 27)
  have k3 := (Holds.new ((w.alloc (.cells #[.slice A M.length c, .int .i64 0] 31)).alloc (.cells #[.bool false] 4)) 27 #[.pointer (some ⟨g, 0, none⟩)]).cell 0
  simp only [size_alloc] at k2 k3
  have hRr : Rr (((w.alloc (.cells #[.slice A M.length c, .int .i64 0] 31)).alloc (.cells #[.bool false] 4)).alloc (.cells #[.pointer (some ⟨g, 0, none⟩)] 27)) B2 w.heap.size (.slice A M.length c) M 0 :=
    ⟨hB2, h16, A, c, rfl, k1, HE.out.below hb1⟩
  have hnd := H.out.2.1.2.2.1
  refine wpIn_rangeFunc_ownF rfl (by omega) (gf := 29) (lb := #[.pointer (some ⟨w.heap.size + 1 + 1, 0, none⟩)]) rfl trivial (enters_of Try.func29 (by kernel_rfl) rfl)
    (all1_stops _ (by omega) (w.heap.size + 1 + 1) g B (w.heap.size + 1 + 1 + 1) v L _ (H.out.below hb1) k3 (by simp)) keepNew_t (keepNew_b (by simp)) (Below.refl _ _) (fun _ => rfl)
    (fun pre W => Going B2 w.heap.size L T w pre W ∧ Below w.heap.size w W)
    (fun c pre W => (c = .ret ∧ ¬ pre <+: L) ∧ Below w.heap.size w W)
    (OwnFrom.and (Own.from (going_own _ _ _ _ _) _) (ownFrom_below (Nat.le_refl _) (by simp; omega)))
    (fun c => OwnFrom.and (fun _ _ _ _ hs _ _ => hs) (ownFrom_below (Nat.le_refl _) (by simp; omega)))
    ⟨⟨⟨L, _, M, rfl, hRr, HR.out⟩, k2⟩, hb1⟩ ?a₁ ?assign ?body ?done ?stop
  case assign =>
    intro l x W K hK
    gi_wp2
    exact hK
  case body =>
    rintro l pre x W ⟨⟨⟨rest, v2, N, hL, hR, hrel⟩, hres⟩, hB⟩ _
    have hfi := rfirst_any W B2 w.heap.size v2 N 0 hR
    have HRR := Lib.hid hR
    have HRes := Lib.hid hres
    have HBB := Lib.hid hB
    have hgw := hR.lt
    cases rest with
    | nil =>
      have hN := hrel.none
      have hfi2 : Calls Try.prog 23 #[.pointer (some ⟨w.heap.size, 0, none⟩)] W fun e w' => e = .returned (.int .i64 (-1)) ∧ Below W.heap.size W w' := hfi.mono fun e w' ⟨r, he, hf, hb⟩ => by
        rcases hf with ⟨_, rfl⟩ | ⟨j, hj, _⟩
        · exact ⟨he, hb⟩
        · rw [hN] at hj
          exact absurd hj (Nat.not_lt_zero _)
      have hnp : ¬ (pre ++ [x]) <+: L := by rw [hL]; exact not_end
      have HNP := Lib.hid hnp
      clear hfi hN hrel hR hres hB hnp hL
      gi_wp2_with (refine ⟨trivial, ?_⟩; gi_at_call 23; refine (CallsIn.inRound l (callsIn_wide.2 hfi2)).mono ?_; rintro e' w2 ⟨rfl, hb2⟩; have HB2 := Lib.hid hb2; have k2 := HRes.out.below hb2 HRes.out.lt; have d2 := k2.cell 0; have f2 := k2.soft 0; clear hb2 k2)
      exact ⟨(others_below HB2.out).trans (KeepsOthers.setCell _ _ _), ⟨rfl, HNP.out⟩, (HBB.out.trans (HB2.out.mono HBB.out.size)).setCell (p := ⟨w.heap.size + 1, 0, none⟩) (by simp) _⟩
    | cons e R =>
      have hplain := fun (w2 : World) (r : Int) (hb : Below W.heap.size W w2) (hr : IsFirst N r) => first_spot HRR.out hrel hb hr
      have HPl := Lib.hid hplain
      obtain ⟨a, b⟩ := e
      obtain ⟨xa, xb⟩ := x
      by_cases h1 : a = xa
      · by_cases h2 : b = xb
        · subst h1
          subst h2
          have hne1 : (a != a) = false := by simp
          have hne2 : (b != b) = false := by simp
          have hdr := fun (w2 : World) (hb2 : Below W.heap.size W w2) => rdrop_any w2 B2 w.heap.size v2 N 0 b (HRR.out.below hb2)
          have hrel2 : Rel R (othersM b N) T := by
            have h3 := hrel.drop b
            have hnd2 : ((((a, b) :: R)).map Prod.snd).Nodup := by
              have : ((a, b) :: R).Sublist L := by rw [hL]; exact List.sublist_append_right _ _
              exact (this.map _).nodup hnd
            have h4 := drop_head (L := (a, b) :: R) hnd2 (k := 0) (by simp)
            have h5 : dropL b ((a, b) :: R) = R := by simpa using h4
            rwa [h5] at h3
          have hL2 : L = (pre ++ [(a, b)]) ++ R := by rw [hL]; simp
          have HL2 := Lib.hid hL2
          have HRel2 := Lib.hid hrel2
          have HDr := Lib.hid hdr
          clear hplain hrel hR hres hB hL hL2 hrel2 hdr
          gi_wp2_with (first
            | (refine ⟨trivial, ?_⟩; gi_at_call 23; refine (CallsIn.inRound l (callsIn_wide.2 hfi)).mono ?_; rintro e' w2 ⟨r, rfl, hfst, hb2⟩; obtain ⟨j, q, c2, rfl, hj, rfl, hn2, hc2, d0, p0, p1⟩ := HPl.out w2 r hb2 hfst; have hj0 : (0 : Int) ≤ (j : Int) := Int.natCast_nonneg _; have hjn : (j : Int) < (N.length : Int) := Int.ofNat_lt.2 hj; have hneg : decide ((j : Int) < 0) = false := decide_eq_false (Int.not_lt.2 hj0); have HB2 := Lib.hid hb2; have hdr := HDr.out w2 hb2; clear hfst hb2)
            | (refine ⟨trivial, ?_⟩; gi_at_call 11; refine (CallsIn.inRound l (callsIn_wide.2 hdr)).mono ?_; rintro e' w3 ⟨rfl, v3, h3, hc3, hp3⟩; have H3 := Lib.hid h3; have HC3 := Lib.hid hc3; clear h3 hc3 hp3))
          have hbw := HBB.out.trans (HB2.out.mono HBB.out.size)
          refine ⟨(others_below HB2.out).trans (others_chg (HRR.out.below HB2.out).2.2.choose_spec.choose_spec.2.1 HC3.out), keepNew_t (new_below HB2.out) (new_chg HC3.out (by omega)), ⟨⟨R, v3, _, HL2.out, H3.out, HRel2.out⟩, ?_⟩, Below.chg hbw HC3.out hbw.size (fun k hk => by omega)⟩
          exact (HRes.out.below HB2.out HRes.out.lt).chg HC3.out (by omega)
        · have HNE : ¬ (a = xa ∧ b = xb) := fun h => h2 h.2
          have hne1 : (a != xa) = false := by simp [h1]
          have hne2 : (b != xb) = true := by simp [h2]
          clear h1 h2
          have hnp : ¬ (pre ++ [(xa, xb)]) <+: L := by rw [hL]; exact not_next (fun h => HNE (by simpa using h))
          have HNP := Lib.hid hnp
          clear hplain hrel hR hres hB hL hnp HNE
          gi_wp2_with (refine ⟨trivial, ?_⟩; gi_at_call 23; refine (CallsIn.inRound l (callsIn_wide.2 hfi)).mono ?_; rintro e' w2 ⟨r, rfl, hfst, hb2⟩; obtain ⟨j, q, c2, rfl, hj, rfl, hn2, hc2, d0, p0, p1⟩ := HPl.out w2 r hb2 hfst; have hj0 : (0 : Int) ≤ (j : Int) := Int.natCast_nonneg _; have hjn : (j : Int) < (N.length : Int) := Int.ofNat_lt.2 hj; have hneg : decide ((j : Int) < 0) = false := decide_eq_false (Int.not_lt.2 hj0); have HB2 := Lib.hid hb2; have k2 := HRes.out.below hb2 HRes.out.lt; have d2 := k2.cell 0; have f2 := k2.soft 0; clear hfst hb2 k2)
          exact ⟨(others_below HB2.out).trans (KeepsOthers.setCell _ _ _), ⟨rfl, HNP.out⟩, (HBB.out.trans (HB2.out.mono HBB.out.size)).setCell (p := ⟨w.heap.size + 1, 0, none⟩) (by simp) _⟩
      · have HNE : ¬ (a = xa ∧ b = xb) := fun h => h1 h.1
        have hne1 : (a != xa) = true := by simp [h1]
        clear h1
        have hnp : ¬ (pre ++ [(xa, xb)]) <+: L := by rw [hL]; exact not_next (fun h => HNE (by simpa using h))
        have HNP := Lib.hid hnp
        clear hplain hrel hR hres hB hL hnp HNE
        gi_wp2_with (refine ⟨trivial, ?_⟩; gi_at_call 23; refine (CallsIn.inRound l (callsIn_wide.2 hfi)).mono ?_; rintro e' w2 ⟨r, rfl, hfst, hb2⟩; obtain ⟨j, q, c2, rfl, hj, rfl, hn2, hc2, d0, p0, p1⟩ := HPl.out w2 r hb2 hfst; have hj0 : (0 : Int) ≤ (j : Int) := Int.natCast_nonneg _; have hjn : (j : Int) < (N.length : Int) := Int.ofNat_lt.2 hj; have hneg : decide ((j : Int) < 0) = false := decide_eq_false (Int.not_lt.2 hj0); have HB2 := Lib.hid hb2; have k2 := HRes.out.below hb2 HRes.out.lt; have d2 := k2.cell 0; have f2 := k2.soft 0; clear hfst hb2 k2)
        exact ⟨(others_below HB2.out).trans (KeepsOthers.setCell _ _ _), ⟨rfl, HNP.out⟩, (HBB.out.trans (HB2.out.mono HBB.out.size)).setCell (p := ⟨w.heap.size + 1, 0, none⟩) (by simp) _⟩
  case done =>
    rintro D ys W hD rfl ⟨⟨⟨rest, v2, N, hL, hR, hrel⟩, hres⟩, hB⟩ hK
    have hrest : rest = [] := by simpa using hL
    subst hrest
    have hN := hrel.none
    subst hN
    obtain ⟨_, _, A2, c2, rfl, hh, _⟩ := hR
    have c0 := hh.cell 0
    have c1 := hres.cell 0
    have f1 := hres.soft 0
    have p2 : Holds (W.setCell ⟨w.heap.size + 1, 0, none⟩ (.bool true)) (w.heap.size + 1) 4 #[.bool true] := hres.put 0 (.bool true)
    have hK' := (KeepsOthers.setCell W ⟨w.heap.size + 1, 0, none⟩ (.bool true)).same D _ hK rfl
    have hg := grownBy_putObj' (W.setCell ⟨w.heap.size + 1, 0, none⟩ (.bool true)) D (.deferred none)
    have hD1 : w.heap.size + 1 + 1 + 1 ≤ D := by simpa using hD
    have r2 := (p2.grown hg (by simp; omega)).cell 0
    have hb2 : Below w.heap.size w (W.setCell ⟨w.heap.size + 1, 0, none⟩ (.bool true)) := hB.setCell (p := ⟨w.heap.size + 1, 0, none⟩) (by simp) _
    have hb3 := hb2.grown hg hb2.size (fun k e => by cases e; omega)
    have R2 := Lib.hid r2
    have HB3 := Lib.hid hb3
    clear p2 r2 hb2 hb3 hg hh hrel hres
    gi_wp2
    refine ⟨by simp, .inl ⟨_, _, rfl, run_takeDeferred hK', ?_⟩⟩
    refine ⟨.bool true, ?_, rfl, HB3.out⟩
    have r2 := R2.out
    simp [results, Try.f15, go_sem, r2]
  case stop =>
    rintro D c pre W _ hp ⟨⟨_, hn⟩, _⟩ _
    exact absurd hp hn
end Go.Proofs.Ytfpjicmmnhcfcaa
