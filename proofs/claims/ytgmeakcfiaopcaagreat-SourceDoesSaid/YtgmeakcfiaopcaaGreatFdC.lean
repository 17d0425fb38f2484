/- The document's node that floods: Hear. -/
import Derived.Test.YtgmeakcfiaopcaaGreatFdA
import Derived.Test.YtgmeakcfiaopcaaGreatBunG
import Derived.Test.YtgmeakcfiaopcaaGreatBunA
import Derived.Deep.CutBlock
namespace Go.Proofs.YtgmeakcfiaopcaaGreat
open Go.RowKit
set_option linter.unusedVariables false
set_option linter.unusedSimpArgs false

/-- While a call of the document's node goes on: a variable of the call's own is the block behind all that was. -/
structure Dw (w0 : World) (gd ge : Nat) (T : TypeId) (C : Array Value) (f : FS) (A : Option Addr) (c : Nat) (W : World) : Prop where
  df : Df W gd ge A c f
  chg : Chg (dpart gd ge) w0 W
  old : gd < w0.heap.size ∧ ge < w0.heap.size
  box : Holds W w0.heap.size T C
section
variable {w0 W W' : World} {gd ge : Nat} {A : Option Addr} {c : Nat} {f f' : FS} {T : TypeId} {C : Array Value}
theorem Dw.start (h : Df w0 gd ge A c f) (T : TypeId) (C : Array Value) : Dw w0 gd ge T C f A c (w0.alloc (.cells C T)) :=
  ⟨h.alloc _, Chg.of_below _ (below_alloc _ _), ⟨h.holds.lt, h.node.lt⟩, Holds.new _ _ _⟩
theorem Dw.below (h : Dw w0 gd ge T C f A c W) (hb : Below W.heap.size W W') : Dw w0 gd ge T C f A c W' :=
  ⟨h.df.below hb, h.chg.trans (Chg.of_below (fun _ => False) hb) (fun _ _ h => h.elim), h.old, h.box.below hb h.box.lt⟩
theorem Dw.drewN (h : Dw w0 gd ge T C f A c W) (m : Nat) : Dw w0 gd ge T C f A c (W.drewN m) := h.below (below_drewN (Below.refl _ _) m)
theorem Dw.drew (h : Dw w0 gd ge T C f A c W) : Dw w0 gd ge T C f A c W.drew := h.drewN 1
theorem Dw.alloc (h : Dw w0 gd ge T C f A c W) (o : Obj) : Dw w0 gd ge T C f A c (W.alloc o) := h.below (below_alloc _ _)
theorem Dw.goes (h : Dw w0 gd ge T C f A c W) (hg : DGoes gd ge f' W W') : ∃ A' c', Dw w0 gd ge T C f' A' c' W' := by
  obtain ⟨A', c', h1, h2⟩ := hg
  obtain ⟨o1, o2⟩ := h.old
  exact ⟨A', c', h1, h.chg.trans h2 (fun _ _ h => h), h.old, h.box.chg h2 (fun hk => by rcases hk with e | e <;> omega)⟩
theorem Dw.end (h : Dw w0 gd ge T C f A c W) : DGoes gd ge f w0 W := ⟨A, c, h.df, h.chg⟩
end
/-- Four cells are written: what was heard is kept. -/
theorem doc_keep {w0 W : World} {gd ge : Nat} {A A' : Option Addr} {c c' : Nat} {f : FS} {T : TypeId} {C : Array Value} {t hp lo : Int} {M : List Ent} (h : Dw w0 gd ge T C f A c W) (hM : keepL f.L (lo, t - lo, hp + 1) = M) (hr : TRow W (gd + 1) A' M.length c' M) :
    W.cell? ⟨gd, 3, none⟩ = some (.slice A f.L.length c) ∧ W.cell? ⟨gd, 4, none⟩ = some (.int .i64 f.pl) ∧ W.cell? ⟨gd, 5, none⟩ = some (.int .i64 f.pg) ∧ W.cell? ⟨gd, 6, none⟩ = some (.int .i64 f.ph) ∧ W.frozen? ⟨gd, 3, none⟩ = false ∧ W.frozen? ⟨gd, 4, none⟩ = false ∧ W.frozen? ⟨gd, 5, none⟩ = false ∧ W.frozen? ⟨gd, 6, none⟩ = false ∧
    Hid (DGoes gd ge (f.keep t hp lo) w0 ((((W.setCell ⟨gd, 3, none⟩ (.slice A' M.length c')).setCell ⟨gd, 4, none⟩ (.int .i64 lo)).setCell ⟨gd, 5, none⟩ (.int .i64 t)).setCell ⟨gd, 6, none⟩ (.int .i64 (hp + 1)))) := by
  have hd := h.df
  have k := hd.cells
  have h3 := hd.put (f' := { f with L := M }) (A' := A') (c' := c') 3 (.slice A' M.length c') rfl rfl hr
  have h4 := h3.1.put (f' := { f with L := M, pl := lo }) 4 (.int .i64 lo) rfl rfl h3.1.row
  have h5 := h4.1.put (f' := { f with L := M, pl := lo, pg := t }) 5 (.int .i64 t) rfl rfl h4.1.row
  have h6 := h5.1.put (f' := { f with L := M, pl := lo, pg := t, ph := hp + 1 }) 6 (.int .i64 (hp + 1)) rfl rfl h5.1.row
  refine ⟨k.2.2.2.1, k.2.2.2.2.1, k.2.2.2.2.2.1, k.2.2.2.2.2.2, hd.holds.soft 3, hd.holds.soft 4, hd.holds.soft 5, hd.holds.soft 6, Lib.hid ⟨A', c', ?_, h.chg.trans (((h3.2.trans h4.2 (fun _ _ h => h)).trans h5.2 (fun _ _ h => h)).trans h6.2 (fun _ _ h => h)) (fun _ _ h => h)⟩⟩
  unfold FS.keep
  rw [hM]
  exact h6.1
set_option maxHeartbeats 4000000 in
set_option maxRecDepth 100000 in
theorem rfhear_any (w : World) (gd ge : Nat) (A : Option Addr) (c : Nat) (f : FS) (h : Df w gd ge A c f) (hI : FInv f) (p0 p1 p2 r x q' hp t p8 p9 p10 p11 p12 p13 lo : Int) (hx : F16 x) (hq : F16 q') :
    Calls Tryz.prog 16 #[.pointer (some ⟨gd, 0, none⟩), .agg #[.int .i64 p0, .int .i64 p1, .int .i64 p2, .int .i64 r, .int .u16 x, .int .u16 q', .int .i64 hp, .int .i64 t, .int .i64 p8, .int .i64 p9, .int .i64 p10, .int .i64 p11, .int .i64 p12, .int .i64 p13], .int .i64 lo] w
      fun e w' => e = .returned (.int .i64 (hearFV f r x q' t hp lo)) ∧ DGoes gd ge (hearFS f r x q' t hp lo) w w' := by
  obtain ⟨C, hC⟩ : ∃ C, C = (#[.int .i64 p0, .int .i64 p1, .int .i64 p2, .int .i64 r, .int .u16 x, .int .u16 q', .int .i64 hp, .int .i64 t, .int .i64 p8, .int .i64 p9, .int .i64 p10, .int .i64 p11, .int .i64 p12, .int .i64 p13] : Array Value) := ⟨_, rfl⟩
  have hst := Dw.start h 57 C
  have hbx : ∀ W A' c' f', Dw w gd ge 57 C f' A' c' W → W.cell? ⟨w.heap.size, 3, none⟩ = some (.int .i64 r) ∧ W.cell? ⟨w.heap.size, 4, none⟩ = some (.int .u16 x) ∧ W.cell? ⟨w.heap.size, 5, none⟩ = some (.int .u16 q') ∧ W.cell? ⟨w.heap.size, 6, none⟩ = some (.int .i64 hp) ∧ W.cell? ⟨w.heap.size, 7, none⟩ = some (.int .i64 t) := fun W A' c' f' hw => by
    have hh := hw.box
    rw [hC] at hh
    exact ⟨hh.cell 3, hh.cell 4, hh.cell 5, hh.cell 6, hh.cell 7⟩
  have hl := fun W => rtime2_any lo W
  have ht := fun W => rtime2_any t W
  unfold hearFS hearFV
  have HX := Lib.hid hbx
  obtain ⟨V, hV⟩ : ∃ V, V = w.alloc (.cells #[.int .i64 p0, .int .i64 p1, .int .i64 p2, .int .i64 r, .int .u16 x, .int .u16 q', .int .i64 hp, .int .i64 t, .int .i64 p8, .int .i64 p9, .int .i64 p10, .int .i64 p11, .int .i64 p12, .int .i64 p13] 57) := ⟨_, rfl⟩
  have hst : Dw w gd ge 57 C f A c V := by rw [hV, ← hC]; exact hst
  obtain ⟨x3, x4, x5, x6, x7⟩ := hbx _ _ _ _ hst
  have HV := Lib.hid hst
  cases hc : canB t hp lo with
  | false =>
    have hcase : decide (hp < 0) = true ∨ decide (hp < 0) = false ∧ decide (62 < hp) = true ∨ decide (hp < 0) = false ∧ decide (62 < hp) = false ∧ timeB lo = false ∨ decide (hp < 0) = false ∧ decide (62 < hp) = false ∧ timeB lo = true ∧ timeB t = false := by
      unfold canB at hc
      by_cases h1 : hp < 0
      · exact .inl (decide_eq_true h1)
      · by_cases h2 : 62 < hp
        · exact .inr (.inl ⟨decide_eq_false h1, decide_eq_true h2⟩)
        · rw [decide_eq_true (show 0 ≤ hp ∧ hp < 63 by omega)] at hc
          cases h3 : timeB lo with
          | false => exact .inr (.inr (.inl ⟨decide_eq_false h1, decide_eq_false h2, rfl⟩))
          | true =>
            rw [h3] at hc
            exact .inr (.inr (.inr ⟨decide_eq_false h1, decide_eq_false h2, rfl, by simpa using hc⟩))
    obtain ⟨T1, hT1⟩ : ∃ T1, timeB lo = T1 := ⟨_, rfl⟩
    obtain ⟨T2, hT2⟩ : ∃ T2, timeB t = T2 := ⟨_, rfl⟩
    simp only [hT1, hT2] at hl ht hcase
    clear hst hbx h hc hI hT1 hT2
    have HE := Lib.hid HV.out.end
    rw [hV] at x3 x4 x5 x6 x7 HE
    rcases hcase with d1 | ⟨d1, d2⟩ | ⟨d1, d2, rfl⟩ | ⟨d1, d2, rfl, rfl⟩
    all_goals
      go_enter Tryz.func16, Tryz.ntmps16
      go_wp2_with (first
        | (go_at_call 35; (with_reducible refine (hl _).mono ?_); rintro e wx ⟨rfl, hwx⟩; subst wx)
        | (go_at_call 35; (with_reducible refine (ht _).mono ?_); rintro e wx ⟨rfl, hwx⟩; subst wx))
      go_ret
      refine ⟨rfl, ?_⟩
      simpa using HE.out
  | true =>
    obtain ⟨⟨h0, h1⟩, hlo, hti⟩ := canB_iff.1 hc
    have d1 : decide (hp < 0) = false := decide_eq_false (by omega)
    have d2 : decide (62 < hp) = false := decide_eq_false (by omega)
    have e5 := IntWalk.i64_in (hp + 1) (by omega)
    have e6 := IntWalk.i64_in (t - lo) (by have := hlo.1; have := hlo.2; have := hti.1; have := hti.2; omega)
    simp only [(timeB_iff lo).2 hlo] at hl
    simp only [(timeB_iff t).2 hti] at ht
    have hce := canE_of hc
    obtain ⟨S, hS⟩ : ∃ S, hearS f.s r x q' = S := ⟨_, rfl⟩
    obtain ⟨D, hD⟩ : ∃ D, hearV f.s r x q' = D := ⟨_, rfl⟩
    have hways := hear_ways r x q' hI.s
    have hvals : hearV f.s r x q' = 0 ∨ hearV f.s r x q' = 1 ∨ hearV f.s r x q' = 2 := by
      unfold hearV
      split
      · split
        · exact .inr (.inr rfl)
        · exact .inr (.inl rfl)
      · exact .inl rfl
    have hsame : D = 0 → f.at S = f := fun e => by
      rcases hways with ⟨-, k⟩ | ⟨k, -⟩
      · rw [← hS, k]
        rfl
      · rw [hD, e] at k
        exact absurd k (by decide)
    rw [hD] at hvals
    have h8 := hI.ents.le
    have HHr := Lib.hid (rhear_at (HV.out.drew).df.node hI.s r x q' hx hq hD hS)
    rw [hD, hS]
    have HSm := Lib.hid hsame
    have HFg := Lib.hid (fun W A' c' f' (hw : Dw w gd ge 57 C f' A' c' W) => rforget_any W gd ge A' c' f' hw.df)
    have HCe := Lib.hid hce
    have hgl := h.holds.lt
    clear hst hbx h hc hI hD hS hways hsame h0 h1 hlo hti hx hq hce
    have hvd := HX.out _ _ _ _ HV.out.drew
    have g0 := HV.out.drew.df.cells.1
    rw [hV] at x3 x4 x5 x6 x7
    go_enter Tryz.func16, Tryz.ntmps16
    go_upto_region 3 with (first
        | (go_at_call 35; (with_reducible refine (hl _).mono ?_); rintro e wx ⟨rfl, hwx⟩; subst wx)
        | (go_at_call 35; (with_reducible refine (ht _).mono ?_); rintro e wx ⟨rfl, hwx⟩; subst wx))
    rw [← hV]
    clear hV x3 x4 x5 x6 x7
    refine region_turns (fun (w' : World) => w'.cell? ⟨gd, 0, none⟩ = some (.pointer (some ⟨ge, 0, none⟩)) ∧ w'.cell? ⟨w.heap.size, 3, none⟩ = some (.int .i64 r) ∧ w'.cell? ⟨w.heap.size, 4, none⟩ = some (.int .u16 x) ∧ w'.cell? ⟨w.heap.size, 5, none⟩ = some (.int .u16 q')) (fun j => decide (12 ≤ j)) (by kernel_rfl) (⟨g0, hvd.1, hvd.2.1, hvd.2.2.1⟩) (fun hS => ?_)
    refine Turns.take hS 0 _ rfl (by kernel_rfl) (by kernel_rfl) (by kernel_rfl) (by kernel_rfl) (fun _ _ _ h => h) (by rfl) (fun w' hS' => by (try dsimp only at hS'); go_split_ands; go_simp; (try with_reducible rfl)) ?_
    simp only [Act.put, List.getElem_toArray, List.getElem_cons_succ, List.getElem_cons_zero, List.setIfInBounds_toArray, List.set_cons_zero, List.set_cons_succ]
    refine Turns.take hS 1 _ rfl (by kernel_rfl) (by kernel_rfl) (by kernel_rfl) (by kernel_rfl) (fun _ _ _ h => h) (by rfl) (fun w' hS' => by (try dsimp only at hS'); go_split_ands; go_simp; (try with_reducible rfl)) ?_
    simp only [Act.put, List.getElem_toArray, List.getElem_cons_succ, List.getElem_cons_zero, List.setIfInBounds_toArray, List.set_cons_zero, List.set_cons_succ]
    refine Turns.take hS 2 _ rfl (by kernel_rfl) (by kernel_rfl) (by kernel_rfl) (by kernel_rfl) (fun _ _ _ h => h) (by rfl) (fun w' hS' => by (try dsimp only at hS'); go_split_ands; go_simp; (try with_reducible rfl)) ?_
    simp only [Act.put, List.getElem_toArray, List.getElem_cons_succ, List.getElem_cons_zero, List.setIfInBounds_toArray, List.set_cons_zero, List.set_cons_succ]
    refine Turns.take hS 3 _ rfl (by kernel_rfl) (by kernel_rfl) (by kernel_rfl) (by kernel_rfl) (fun _ _ _ h => h) (by rfl) (fun w' hS' => by (try dsimp only at hS'); go_split_ands; go_simp; (try with_reducible rfl)) ?_
    simp only [Act.put, List.getElem_toArray, List.getElem_cons_succ, List.getElem_cons_zero, List.setIfInBounds_toArray, List.set_cons_zero, List.set_cons_succ]
    refine Turns.take hS 4 _ rfl (by kernel_rfl) (by kernel_rfl) (by kernel_rfl) (by kernel_rfl) (fun _ _ _ h => h) (by rfl) (fun w' hS' => by (try dsimp only at hS'); go_split_ands; go_simp; (try with_reducible rfl)) ?_
    simp only [Act.put, List.getElem_toArray, List.getElem_cons_succ, List.getElem_cons_zero, List.setIfInBounds_toArray, List.set_cons_zero, List.set_cons_succ]
    refine Turns.take hS 5 _ rfl (by kernel_rfl) (by kernel_rfl) (by kernel_rfl) (by kernel_rfl) (fun _ _ _ h => h) (by rfl) (fun w' hS' => by (try dsimp only at hS'); go_split_ands; go_simp; (try with_reducible rfl)) ?_
    simp only [Act.put, List.getElem_toArray, List.getElem_cons_succ, List.getElem_cons_zero, List.setIfInBounds_toArray, List.set_cons_zero, List.set_cons_succ]
    refine Turns.take hS 6 _ rfl (by kernel_rfl) (by kernel_rfl) (by kernel_rfl) (by kernel_rfl) (fun _ _ _ h => h) (by rfl) (fun w' hS' => by (try dsimp only at hS'); go_split_ands; go_simp; (try with_reducible rfl)) ?_
    simp only [Act.put, List.getElem_toArray, List.getElem_cons_succ, List.getElem_cons_zero, List.setIfInBounds_toArray, List.set_cons_zero, List.set_cons_succ]
    refine Turns.take hS 7 _ rfl (by kernel_rfl) (by kernel_rfl) (by kernel_rfl) (by kernel_rfl) (fun _ _ _ h => h) (by rfl) (fun w' hS' => by (try dsimp only at hS'); go_split_ands; go_simp; (try with_reducible rfl)) ?_
    simp only [Act.put, List.getElem_toArray, List.getElem_cons_succ, List.getElem_cons_zero, List.setIfInBounds_toArray, List.set_cons_zero, List.set_cons_succ]
    refine Turns.take hS 8 _ rfl (by kernel_rfl) (by kernel_rfl) (by kernel_rfl) (by kernel_rfl) (fun _ _ _ h => h) (by rfl) (fun w' hS' => by (try dsimp only at hS'); go_split_ands; go_simp; (try with_reducible rfl)) ?_
    simp only [Act.put, List.getElem_toArray, List.getElem_cons_succ, List.getElem_cons_zero, List.setIfInBounds_toArray, List.set_cons_zero, List.set_cons_succ]
    refine Turns.take hS 9 _ rfl (by kernel_rfl) (by kernel_rfl) (by kernel_rfl) (by kernel_rfl) (fun _ _ _ h => h) (by rfl) (fun w' hS' => by (try dsimp only at hS'); go_split_ands; go_simp; (try with_reducible rfl)) ?_
    simp only [Act.put, List.getElem_toArray, List.getElem_cons_succ, List.getElem_cons_zero, List.setIfInBounds_toArray, List.set_cons_zero, List.set_cons_succ]
    refine Turns.next 10 rfl (by kernel_rfl) (by rfl) (fun K hK => ?_)
    go_simp
    go_at_call 36
    refine HHr.out.mono ?_
    rintro e w4 ⟨rfl, hd4, hg4⟩
    obtain ⟨hdf4, hc4⟩ := HV.out.drew.df.node_goes hd4 hg4
    obtain ⟨A4, c4, hW4⟩ := HV.out.drew.goes ⟨_, _, hdf4, hc4⟩
    have HW4 := Lib.hid hW4
    have hv4 := HX.out _ _ _ _ hW4
    have g4 := hW4.df.cells.1
    clear hd4 hg4 hW4 hdf4 hc4
    refine hK.out _ _ (show (fun (w' : World) => w'.cell? ⟨gd, 0, none⟩ = some (.pointer (some ⟨ge, 0, none⟩)) ∧ w'.cell? ⟨w.heap.size, 3, none⟩ = some (.int .i64 r) ∧ w'.cell? ⟨w.heap.size, 4, none⟩ = some (.int .u16 x) ∧ w'.cell? ⟨w.heap.size, 5, none⟩ = some (.int .u16 q')) _ from ⟨g4, hv4.1, hv4.2.1, hv4.2.2.1⟩) ?_
    clear hK K hS
    have hS := (show (fun (w' : World) => w'.cell? ⟨gd, 0, none⟩ = some (.pointer (some ⟨ge, 0, none⟩)) ∧ w'.cell? ⟨w.heap.size, 3, none⟩ = some (.int .i64 r) ∧ w'.cell? ⟨w.heap.size, 4, none⟩ = some (.int .u16 x) ∧ w'.cell? ⟨w.heap.size, 5, none⟩ = some (.int .u16 q')) _ from ⟨g4, hv4.1, hv4.2.1, hv4.2.2.1⟩)
    refine Turns.take hS 11 _ rfl (by kernel_rfl) (by kernel_rfl) (by kernel_rfl) (by kernel_rfl) (fun _ _ _ h => h) (by rfl) (fun w' hS' => by (try dsimp only at hS'); go_split_ands; go_simp; (try with_reducible rfl)) ?_
    simp only [Act.put, List.getElem_toArray, List.getElem_cons_succ, List.getElem_cons_zero, List.setIfInBounds_toArray, List.set_cons_zero, List.set_cons_succ]
    refine Turns.rest (late_done (by kernel_rfl)) ?_
    refine any_tail 12 (by rfl) (by kernel_rfl) ?_
    simp only [List.drop_succ_cons, List.drop_zero]
    clear hS
    clear hvd g0 g4
    rcases hvals with rfl | rfl | rfl
    · have y6 := hv4.2.2.2.1
      have y7 := hv4.2.2.2.2
      clear hv4
      go_wp2
      go_ret
      refine ⟨rfl, ?_⟩
      have := HW4.out.end
      rw [HSm.out (by trivial)] at this
      exact this
    case' inr.inl =>
      obtain ⟨F1, hF1⟩ : ∃ F1, f.at S = F1 := ⟨_, rfl⟩
      have hgoal : moveF (f.at S) 1 = F1 := by rw [← hF1]; rfl
      have h8' : F1.L.length ≤ 8 := by rw [← hF1]; exact h8
      have HWz : Hid (Dw w gd ge 57 C F1 A4 c4 w4) := Lib.hid (by rw [← hF1]; exact HW4.out)
      have HG := Lib.hid hgoal
      clear hF1 hgoal hv4 HW4
      have hv5 := HX.out _ _ _ _ HWz.out
      have y6 := hv5.2.2.2.1
      have y7 := hv5.2.2.2.2
      clear hv5
      go_upto_region 9 with fail
      obtain ⟨wz, hwz⟩ : ∃ wz, wz = w4 := ⟨_, rfl⟩
      subst hwz
      obtain ⟨Az, hAz⟩ : ∃ Az, Az = A4 := ⟨_, rfl⟩
      subst hAz
      obtain ⟨cz, hcz⟩ : ∃ cz, cz = c4 := ⟨_, rfl⟩
      subst hcz
    case' inr.inr =>
      obtain ⟨F1, hF1⟩ : ∃ F1, (f.at S).clear = F1 := ⟨_, rfl⟩
      have hgoal : moveF (f.at S) 2 = F1 := by rw [← hF1]; rfl
      have h8' : F1.L.length ≤ 8 := by rw [← hF1]; exact Nat.zero_le _
      have HG := Lib.hid hgoal
      have hfg := HFg.out _ _ _ _ HW4.out
      rw [hF1] at hfg
      clear hF1 hgoal hv4
      go_upto_region 9 with (go_at_call 37; refine hfg.mono ?_; rintro e w5 ⟨rfl, hg5⟩; obtain ⟨A5, c5, hW5⟩ := HW4.out.goes hg5; have HWz := Lib.hid hW5; have hv5 := HX.out _ _ _ _ hW5; have y6 := hv5.2.2.2.1; have y7 := hv5.2.2.2.2; clear hg5 hW5 hfg hv5)
      obtain ⟨wz, hwz⟩ : ∃ wz, wz = w5 := ⟨_, rfl⟩
      subst hwz
      obtain ⟨Az, hAz⟩ : ∃ Az, Az = A5 := ⟨_, rfl⟩
      subst hAz
      obtain ⟨cz, hcz⟩ : ∃ cz, cz = c5 := ⟨_, rfl⟩
      subst hcz
    all_goals
      have HWd := Lib.hid (HWz.out.alloc (.cells #[.int .i64 lo, .int .i64 (t - lo), .int .i64 (hp + 1)] 51)).drew
      have HEd := Lib.hid (show Holds (wz.alloc (.cells #[.int .i64 lo, .int .i64 (t - lo), .int .i64 (hp + 1)] 51)).drew wz.heap.size 51 #[.int .i64 lo, .int .i64 (t - lo), .int .i64 (hp + 1)] from (Holds.new wz _ _).drewN 1)
      have hks := keep_step (L := F1.L) HCe.out
      obtain ⟨M, hM⟩ : ∃ M, keepL F1.L (lo, t - lo, hp + 1) = M := ⟨_, rfl⟩
      rw [hM] at hks
      have hgB : gd + 1 ≤ (wz.alloc (.cells #[.int .i64 lo, .int .i64 (t - lo), .int .i64 (hp + 1)] 51)).drew.heap.size := by
        have := HWd.out.df.holds.lt
        omega
      have hne : w.heap.size ≠ gd := by omega
      clear y6 y7
      rcases hks with ⟨-, hs⟩ | ⟨-, hs1, hs2⟩
      · have hadd := radd_step _ _ _ _ (gd + 1) Az cz F1.L M 0 HWd.out.df.row h8' hgB hs
        clear hs
        refine region_turns (fun (w' : World) => w'.cell? ⟨gd, 3, none⟩ = some (.slice Az F1.L.length cz) ∧ w'.cell? ⟨wz.heap.size, 0, none⟩ = some (.int .i64 lo) ∧ w'.cell? ⟨wz.heap.size, 1, none⟩ = some (.int .i64 (t - lo)) ∧ w'.cell? ⟨wz.heap.size, 2, none⟩ = some (.int .i64 (hp + 1))) (fun j => decide (11 ≤ j)) (by kernel_rfl) (⟨HWd.out.df.cells.2.2.2.1, HEd.out.cell 0, HEd.out.cell 1, HEd.out.cell 2⟩) (fun hS => ?_)
        refine Turns.take hS 0 _ rfl (by kernel_rfl) (by kernel_rfl) (by kernel_rfl) (by kernel_rfl) (fun _ _ _ h => h) (by rfl) (fun w' hS' => by (try dsimp only at hS'); go_split_ands; go_simp; (try with_reducible rfl)) ?_
        simp only [Act.put, List.getElem_toArray, List.getElem_cons_succ, List.getElem_cons_zero, List.setIfInBounds_toArray, List.set_cons_zero, List.set_cons_succ]
        refine Turns.take hS 1 _ rfl (by kernel_rfl) (by kernel_rfl) (by kernel_rfl) (by kernel_rfl) (fun _ _ _ h => h) (by rfl) (fun w' hS' => by (try dsimp only at hS'); go_split_ands; go_simp; (try with_reducible rfl)) ?_
        simp only [Act.put, List.getElem_toArray, List.getElem_cons_succ, List.getElem_cons_zero, List.setIfInBounds_toArray, List.set_cons_zero, List.set_cons_succ]
        refine Turns.take hS 2 _ rfl (by kernel_rfl) (by kernel_rfl) (by kernel_rfl) (by kernel_rfl) (fun _ _ _ h => h) (by rfl) (fun w' hS' => by (try dsimp only at hS'); go_split_ands; go_simp; (try with_reducible rfl)) ?_
        simp only [Act.put, List.getElem_toArray, List.getElem_cons_succ, List.getElem_cons_zero, List.setIfInBounds_toArray, List.set_cons_zero, List.set_cons_succ]
        refine Turns.take hS 3 _ rfl (by kernel_rfl) (by kernel_rfl) (by kernel_rfl) (by kernel_rfl) (fun _ _ _ h => h) (by rfl) (fun w' hS' => by (try dsimp only at hS'); go_split_ands; go_simp; (try with_reducible rfl)) ?_
        simp only [Act.put, List.getElem_toArray, List.getElem_cons_succ, List.getElem_cons_zero, List.setIfInBounds_toArray, List.set_cons_zero, List.set_cons_succ]
        refine Turns.take hS 4 _ rfl (by kernel_rfl) (by kernel_rfl) (by kernel_rfl) (by kernel_rfl) (fun _ _ _ h => h) (by rfl) (fun w' hS' => by (try dsimp only at hS'); go_split_ands; go_simp; (try with_reducible rfl)) ?_
        simp only [Act.put, List.getElem_toArray, List.getElem_cons_succ, List.getElem_cons_zero, List.setIfInBounds_toArray, List.set_cons_zero, List.set_cons_succ]
        refine Turns.next 5 rfl (by kernel_rfl) (by rfl) (fun K hK => ?_)
        go_simp
        go_at_call 38
        refine hadd.mono ?_
        rintro e w6 ⟨A6, c6, rfl, hr6, hb6⟩
        have HW6 := Lib.hid (HWd.out.below hb6)
        have HE6 := Lib.hid (HEd.out.below hb6 HEd.out.lt)
        have HR6 := Lib.hid hr6
        clear hr6 hb6 hadd
        refine hK.out _ _ (show (fun (w' : World) => w'.cell? ⟨gd, 3, none⟩ = some (.slice Az F1.L.length cz) ∧ w'.cell? ⟨wz.heap.size, 0, none⟩ = some (.int .i64 lo) ∧ w'.cell? ⟨wz.heap.size, 1, none⟩ = some (.int .i64 (t - lo)) ∧ w'.cell? ⟨wz.heap.size, 2, none⟩ = some (.int .i64 (hp + 1))) _ from ⟨HW6.out.df.cells.2.2.2.1, HE6.out.cell 0, HE6.out.cell 1, HE6.out.cell 2⟩) ?_
        clear hK K hS
        have hS := (show (fun (w' : World) => w'.cell? ⟨gd, 3, none⟩ = some (.slice Az F1.L.length cz) ∧ w'.cell? ⟨wz.heap.size, 0, none⟩ = some (.int .i64 lo) ∧ w'.cell? ⟨wz.heap.size, 1, none⟩ = some (.int .i64 (t - lo)) ∧ w'.cell? ⟨wz.heap.size, 2, none⟩ = some (.int .i64 (hp + 1))) _ from ⟨HW6.out.df.cells.2.2.2.1, HE6.out.cell 0, HE6.out.cell 1, HE6.out.cell 2⟩)
        refine Turns.take hS 6 _ rfl (by kernel_rfl) (by kernel_rfl) (by kernel_rfl) (by kernel_rfl) (fun _ _ _ h => h) (by rfl) (fun w' hS' => by (try dsimp only at hS'); go_split_ands; go_simp; (try with_reducible rfl)) ?_
        simp only [Act.put, List.getElem_toArray, List.getElem_cons_succ, List.getElem_cons_zero, List.setIfInBounds_toArray, List.set_cons_zero, List.set_cons_succ]
        refine Turns.take hS 7 _ rfl (by kernel_rfl) (by kernel_rfl) (by kernel_rfl) (by kernel_rfl) (fun _ _ _ h => h) (by rfl) (fun w' hS' => by (try dsimp only at hS'); go_split_ands; go_simp; (try with_reducible rfl)) ?_
        simp only [Act.put, List.getElem_toArray, List.getElem_cons_succ, List.getElem_cons_zero, List.setIfInBounds_toArray, List.set_cons_zero, List.set_cons_succ]
        refine Turns.take hS 8 _ rfl (by kernel_rfl) (by kernel_rfl) (by kernel_rfl) (by kernel_rfl) (fun _ _ _ h => h) (by rfl) (fun w' hS' => by (try dsimp only at hS'); go_split_ands; go_simp; (try with_reducible rfl)) ?_
        simp only [Act.put, List.getElem_toArray, List.getElem_cons_succ, List.getElem_cons_zero, List.setIfInBounds_toArray, List.set_cons_zero, List.set_cons_succ]
        refine Turns.take hS 9 _ rfl (by kernel_rfl) (by kernel_rfl) (by kernel_rfl) (by kernel_rfl) (fun _ _ _ h => h) (by rfl) (fun w' hS' => by (try dsimp only at hS'); go_split_ands; go_simp; (try with_reducible rfl)) ?_
        simp only [Act.put, List.getElem_toArray, List.getElem_cons_succ, List.getElem_cons_zero, List.setIfInBounds_toArray, List.set_cons_zero, List.set_cons_succ]
        refine Turns.take hS 10 _ rfl (by kernel_rfl) (by kernel_rfl) (by kernel_rfl) (by kernel_rfl) (fun _ _ _ h => h) (by rfl) (fun w' hS' => by (try dsimp only at hS'); go_split_ands; go_simp; (try with_reducible rfl)) ?_
        simp only [Act.put, List.getElem_toArray, List.getElem_cons_succ, List.getElem_cons_zero, List.setIfInBounds_toArray, List.set_cons_zero, List.set_cons_succ]
        refine Turns.rest (late_done (by kernel_rfl)) ?_
        refine any_tail 11 (by rfl) (by kernel_rfl) ?_
        simp only [List.drop_succ_cons, List.drop_zero]
        clear hS
        have hvk := HX.out _ _ _ _ HW6.out
        have y6 := hvk.2.2.2.1
        have y7 := hvk.2.2.2.2
        obtain ⟨k3, k4, k5, k6, u3, u4, u5, u6, HD⟩ := doc_keep HW6.out hM HR6.out
        have hb4 := HW6.out.box.far (b := gd) (i := 3) hne (.slice A6 M.length c6)
        have hb5 := hb4.far (b := gd) (i := 4) hne (.int .i64 lo)
        have hb6 := hb5.far (b := gd) (i := 5) hne (.int .i64 t)
        rw [hC] at hb5 hb6
        have z7 := hb5.cell 7
        have z6 := hb6.cell 6
        clear hvk hb4 hb5 hb6
        go_wp2
        go_ret
        refine ⟨rfl, ?_⟩
        have := HD.out
        rw [← HG.out] at this
        simpa using this
      · have hadd := radd_step _ _ _ _ (gd + 1) Az cz F1.L F1.L 12 HWd.out.df.row h8' hgB hs1
        clear hs1
        refine region_turns (fun (w' : World) => w'.cell? ⟨gd, 3, none⟩ = some (.slice Az F1.L.length cz) ∧ w'.cell? ⟨wz.heap.size, 0, none⟩ = some (.int .i64 lo) ∧ w'.cell? ⟨wz.heap.size, 1, none⟩ = some (.int .i64 (t - lo)) ∧ w'.cell? ⟨wz.heap.size, 2, none⟩ = some (.int .i64 (hp + 1))) (fun j => decide (11 ≤ j)) (by kernel_rfl) (⟨HWd.out.df.cells.2.2.2.1, HEd.out.cell 0, HEd.out.cell 1, HEd.out.cell 2⟩) (fun hS => ?_)
        refine Turns.take hS 0 _ rfl (by kernel_rfl) (by kernel_rfl) (by kernel_rfl) (by kernel_rfl) (fun _ _ _ h => h) (by rfl) (fun w' hS' => by (try dsimp only at hS'); go_split_ands; go_simp; (try with_reducible rfl)) ?_
        simp only [Act.put, List.getElem_toArray, List.getElem_cons_succ, List.getElem_cons_zero, List.setIfInBounds_toArray, List.set_cons_zero, List.set_cons_succ]
        refine Turns.take hS 1 _ rfl (by kernel_rfl) (by kernel_rfl) (by kernel_rfl) (by kernel_rfl) (fun _ _ _ h => h) (by rfl) (fun w' hS' => by (try dsimp only at hS'); go_split_ands; go_simp; (try with_reducible rfl)) ?_
        simp only [Act.put, List.getElem_toArray, List.getElem_cons_succ, List.getElem_cons_zero, List.setIfInBounds_toArray, List.set_cons_zero, List.set_cons_succ]
        refine Turns.take hS 2 _ rfl (by kernel_rfl) (by kernel_rfl) (by kernel_rfl) (by kernel_rfl) (fun _ _ _ h => h) (by rfl) (fun w' hS' => by (try dsimp only at hS'); go_split_ands; go_simp; (try with_reducible rfl)) ?_
        simp only [Act.put, List.getElem_toArray, List.getElem_cons_succ, List.getElem_cons_zero, List.setIfInBounds_toArray, List.set_cons_zero, List.set_cons_succ]
        refine Turns.take hS 3 _ rfl (by kernel_rfl) (by kernel_rfl) (by kernel_rfl) (by kernel_rfl) (fun _ _ _ h => h) (by rfl) (fun w' hS' => by (try dsimp only at hS'); go_split_ands; go_simp; (try with_reducible rfl)) ?_
        simp only [Act.put, List.getElem_toArray, List.getElem_cons_succ, List.getElem_cons_zero, List.setIfInBounds_toArray, List.set_cons_zero, List.set_cons_succ]
        refine Turns.take hS 4 _ rfl (by kernel_rfl) (by kernel_rfl) (by kernel_rfl) (by kernel_rfl) (fun _ _ _ h => h) (by rfl) (fun w' hS' => by (try dsimp only at hS'); go_split_ands; go_simp; (try with_reducible rfl)) ?_
        simp only [Act.put, List.getElem_toArray, List.getElem_cons_succ, List.getElem_cons_zero, List.setIfInBounds_toArray, List.set_cons_zero, List.set_cons_succ]
        refine Turns.next 5 rfl (by kernel_rfl) (by rfl) (fun K hK => ?_)
        go_simp
        go_at_call 38
        refine hadd.mono ?_
        rintro e w6 ⟨A6, c6, rfl, hr6, hb6⟩
        have HW6 := Lib.hid (HWd.out.below hb6)
        have HE6 := Lib.hid (HEd.out.below hb6 HEd.out.lt)
        have HR6 := Lib.hid hr6
        clear hr6 hb6 hadd
        refine hK.out _ _ (show (fun (w' : World) => w'.cell? ⟨gd, 3, none⟩ = some (.slice Az F1.L.length cz) ∧ w'.cell? ⟨wz.heap.size, 0, none⟩ = some (.int .i64 lo) ∧ w'.cell? ⟨wz.heap.size, 1, none⟩ = some (.int .i64 (t - lo)) ∧ w'.cell? ⟨wz.heap.size, 2, none⟩ = some (.int .i64 (hp + 1))) _ from ⟨HW6.out.df.cells.2.2.2.1, HE6.out.cell 0, HE6.out.cell 1, HE6.out.cell 2⟩) ?_
        clear hK K hS
        have hS := (show (fun (w' : World) => w'.cell? ⟨gd, 3, none⟩ = some (.slice Az F1.L.length cz) ∧ w'.cell? ⟨wz.heap.size, 0, none⟩ = some (.int .i64 lo) ∧ w'.cell? ⟨wz.heap.size, 1, none⟩ = some (.int .i64 (t - lo)) ∧ w'.cell? ⟨wz.heap.size, 2, none⟩ = some (.int .i64 (hp + 1))) _ from ⟨HW6.out.df.cells.2.2.2.1, HE6.out.cell 0, HE6.out.cell 1, HE6.out.cell 2⟩)
        refine Turns.take hS 6 _ rfl (by kernel_rfl) (by kernel_rfl) (by kernel_rfl) (by kernel_rfl) (fun _ _ _ h => h) (by rfl) (fun w' hS' => by (try dsimp only at hS'); go_split_ands; go_simp; (try with_reducible rfl)) ?_
        simp only [Act.put, List.getElem_toArray, List.getElem_cons_succ, List.getElem_cons_zero, List.setIfInBounds_toArray, List.set_cons_zero, List.set_cons_succ]
        refine Turns.take hS 7 _ rfl (by kernel_rfl) (by kernel_rfl) (by kernel_rfl) (by kernel_rfl) (fun _ _ _ h => h) (by rfl) (fun w' hS' => by (try dsimp only at hS'); go_split_ands; go_simp; (try with_reducible rfl)) ?_
        simp only [Act.put, List.getElem_toArray, List.getElem_cons_succ, List.getElem_cons_zero, List.setIfInBounds_toArray, List.set_cons_zero, List.set_cons_succ]
        refine Turns.take hS 8 _ rfl (by kernel_rfl) (by kernel_rfl) (by kernel_rfl) (by kernel_rfl) (fun _ _ _ h => h) (by rfl) (fun w' hS' => by (try dsimp only at hS'); go_split_ands; go_simp; (try with_reducible rfl)) ?_
        simp only [Act.put, List.getElem_toArray, List.getElem_cons_succ, List.getElem_cons_zero, List.setIfInBounds_toArray, List.set_cons_zero, List.set_cons_succ]
        refine Turns.take hS 9 _ rfl (by kernel_rfl) (by kernel_rfl) (by kernel_rfl) (by kernel_rfl) (fun _ _ _ h => h) (by rfl) (fun w' hS' => by (try dsimp only at hS'); go_split_ands; go_simp; (try with_reducible rfl)) ?_
        simp only [Act.put, List.getElem_toArray, List.getElem_cons_succ, List.getElem_cons_zero, List.setIfInBounds_toArray, List.set_cons_zero, List.set_cons_succ]
        refine Turns.take hS 10 _ rfl (by kernel_rfl) (by kernel_rfl) (by kernel_rfl) (by kernel_rfl) (fun _ _ _ h => h) (by rfl) (fun w' hS' => by (try dsimp only at hS'); go_split_ands; go_simp; (try with_reducible rfl)) ?_
        simp only [Act.put, List.getElem_toArray, List.getElem_cons_succ, List.getElem_cons_zero, List.setIfInBounds_toArray, List.set_cons_zero, List.set_cons_succ]
        refine Turns.rest (late_done (by kernel_rfl)) ?_
        refine any_tail 11 (by rfl) (by kernel_rfl) ?_
        simp only [List.drop_succ_cons, List.drop_zero]
        clear hS
        have hgB6 : gd + 1 ≤ w6.heap.size := by
          have := HW6.out.df.holds.lt
          omega
        have hadd2 := radd_step lo (t - lo) (hp + 1) w6 (gd + 1) none 0 [] M 0 (trow_none _ _) (Nat.zero_le _) hgB6 hs2
        clear hs2
        have i0 := HE6.out.cell 0
        have i1 := HE6.out.cell 1
        have i2 := HE6.out.cell 2
        go_upto_region 12 with (go_at_call 38; refine hadd2.mono ?_; rintro e w7 ⟨A7, c7, rfl, hr7, hb7⟩; have HW7 := Lib.hid (HW6.out.below hb7); have HR7 := Lib.hid hr7; clear hr7 hb7 hadd2 i0 i1 i2)
        have hvk := HX.out _ _ _ _ HW7.out
        have y6 := hvk.2.2.2.1
        have y7 := hvk.2.2.2.2
        obtain ⟨k3, k4, k5, k6, u3, u4, u5, u6, HD⟩ := doc_keep HW7.out hM HR7.out
        have hb4 := HW7.out.box.far (b := gd) (i := 3) hne (.slice A7 M.length c7)
        have hb5 := hb4.far (b := gd) (i := 4) hne (.int .i64 lo)
        have hb6 := hb5.far (b := gd) (i := 5) hne (.int .i64 t)
        rw [hC] at hb5 hb6
        have z7 := hb5.cell 7
        have z6 := hb6.cell 6
        clear hvk hb4 hb5 hb6
        go_wp2
        go_ret
        refine ⟨rfl, ?_⟩
        have := HD.out
        rw [← HG.out] at this
        simpa using this
end Go.Proofs.YtgmeakcfiaopcaaGreat
