/- Package flood: Hear, Boot. -/
import Derived.Test.YtgmeakcfiaopcaaGreatFlC
namespace Go.Proofs.YtgmeakcfiaopcaaGreat
open Go.RowKit
set_option linter.unusedVariables false
set_option linter.unusedSimpArgs false

/-- While a call of a node goes on: a variable of the call's own is the block behind all that was. -/
structure Fw (w0 : World) (B gf g b : Nat) (T : TypeId) (C : Array Value) (f : FS) (b' n' : Nat) (W : World) : Prop where
  fo : Fo W B gf g b' n' f
  chg : Chg (fpart gf g b) w0 W
  mv : b' = b ∨ w0.heap.size ≤ b'
  old : gf < w0.heap.size ∧ g < w0.heap.size ∧ b < w0.heap.size
  box : Holds W w0.heap.size T C
section
variable {w0 W W' : World} {B gf g b n n' n2 b' : Nat} {f f' : FS} {T : TypeId} {C : Array Value}
theorem Fw.start (h : Fo w0 B gf g b n f) (T : TypeId) (C : Array Value) : Fw w0 B gf g b T C f b n (w0.alloc (.cells C T)) :=
  ⟨h.below (below_alloc _ _), Chg.of_below _ (below_alloc _ _), .inl rfl, ⟨h.lt, h.node.lt, h.node.ltb⟩, Holds.new _ _ _⟩
theorem Fw.below (h : Fw w0 B gf g b T C f b' n' W) (hb : Below W.heap.size W W') : Fw w0 B gf g b T C f b' n' W' :=
  ⟨h.fo.below hb, h.chg.trans (Chg.of_below (fun _ => False) hb) (fun _ _ h => h.elim), h.mv, h.old, h.box.below hb h.box.lt⟩
theorem Fw.drewN (h : Fw w0 B gf g b T C f b' n' W) (m : Nat) : Fw w0 B gf g b T C f b' n' (W.drewN m) := h.below (below_drewN (Below.refl _ _) m)
theorem Fw.drew (h : Fw w0 B gf g b T C f b' n' W) : Fw w0 B gf g b T C f b' n' W.drew := h.drewN 1
theorem Fw.goes (h : Fw w0 B gf g b T C f b' n' W) (hg : FGoes B gf g b' n2 f' W W') : ∃ b2, Fw w0 B gf g b T C f' b2 n2 W' := by
  obtain ⟨b2, h1, h2, h3⟩ := hg
  obtain ⟨o1, o2, o3⟩ := h.old
  have hs := h.chg.size
  have hap := h.fo.node.km.apart h.box
  refine ⟨b2, h1, h.chg.trans h2 (fun k hk hk2 => ?_), ?_, h.old, h.box.chg h2 (fun hk => ?_)⟩
  · rcases hk2 with e | e | e
    · exact .inl e
    · exact .inr (.inl e)
    · rcases h.mv with k1 | k1
      · exact .inr (.inr (e.trans k1))
      · omega
  · rcases h3 with k2 | k2
    · rw [k2]
      exact h.mv
    · exact .inr (Nat.le_trans hs k2)
  · rcases hk with e | e | e
    · omega
    · omega
    · exact hap e
theorem Fw.end (h : Fw w0 B gf g b T C f b' n' W) : FGoes B gf g b n' f w0 W := ⟨b', h.fo, h.chg, h.mv⟩
end
/-- What Hear answers, and what becomes of the node. -/
def FHeard (B gf g b n : Nat) (f : FS) (r x q t hp lo : Int) (w : World) (e : Ending) (w' : World) : Prop := e = .returned (.int .i64 (hearFV f r x q t hp lo)) ∧ FGoes B gf g b (n + 1) (hearFS f r x q t hp lo) w w'
theorem fhear_nil (w : World) (fr r x q hp t lo : Int) : Calls Tryz.prog 15 #[.pointer none, .agg #[.int .i64 fr, .int .i64 r, .int .u16 x, .int .u16 q, .int .i64 hp, .int .i64 t], .int .i64 lo] w fun e w' => e = .returned (.int .i64 0) ∧ Below w.heap.size w w' := by
  have hb := below_alloc w (.cells #[.int .i64 fr, .int .i64 r, .int .u16 x, .int .u16 q, .int .i64 hp, .int .i64 t] 63)
  go_enter Tryz.func15, Tryz.ntmps15
  go_wp2
  go_ret
  exact ⟨rfl, hb⟩
set_option maxHeartbeats 2000000 in
set_option maxRecDepth 100000 in
theorem fhear_any (w : World) (B gf g b n : Nat) (f : FS) (h : Fo w B gf g b n f) (hI : FInv f) (hn : n ≤ 100000) (fr r x q hp t lo : Int) (hr : Fits r) (hx : F16 x) (hq : F16 q) :
    Calls Tryz.prog 15 #[.pointer (some ⟨gf, 0, none⟩), .agg #[.int .i64 fr, .int .i64 r, .int .u16 x, .int .u16 q, .int .i64 hp, .int .i64 t], .int .i64 lo] w (FHeard B gf g b n f r x q t hp lo w) := by
  obtain ⟨C, hC⟩ : ∃ C, C = (#[.int .i64 fr, .int .i64 r, .int .u16 x, .int .u16 q, .int .i64 hp, .int .i64 t] : Array Value) := ⟨_, rfl⟩
  have hst := Fw.start h 63 C
  have hbx : ∀ W b' n' f', Fw w B gf g b 63 C f' b' n' W → W.cell? ⟨w.heap.size, 1, none⟩ = some (.int .i64 r) ∧ W.cell? ⟨w.heap.size, 2, none⟩ = some (.int .u16 x) ∧ W.cell? ⟨w.heap.size, 3, none⟩ = some (.int .u16 q) ∧ W.cell? ⟨w.heap.size, 4, none⟩ = some (.int .i64 hp) ∧ W.cell? ⟨w.heap.size, 5, none⟩ = some (.int .i64 t) := fun W b' n' f' hw => by
    have hh := hw.box
    rw [hC] at hh
    exact ⟨hh.cell 1, hh.cell 2, hh.cell 3, hh.cell 4, hh.cell 5⟩
  have hl := fun W => ftime_any lo W
  have ht := fun W => ftime_any t W
  unfold FHeard hearFS hearFV
  have HX := Lib.hid hbx
  obtain ⟨V, hV⟩ : ∃ V, V = w.alloc (.cells #[.int .i64 fr, .int .i64 r, .int .u16 x, .int .u16 q, .int .i64 hp, .int .i64 t] 63) := ⟨_, rfl⟩
  have hst : Fw w B gf g b 63 C f b n V := by rw [hV, ← hC]; exact hst
  obtain ⟨x1, x2, x3, x4, x5⟩ := hbx _ _ _ _ hst
  have HV := Lib.hid hst
  cases hc : canB t hp lo with
  | false =>
    have hcase : decide (hp < 0) = true ∨ decide (hp < 0) = false ∧ decide (63 ≤ hp) = true ∨ decide (hp < 0) = false ∧ decide (63 ≤ hp) = false ∧ timeB lo = false ∨ decide (hp < 0) = false ∧ decide (63 ≤ hp) = false ∧ timeB lo = true ∧ timeB t = false := by
      unfold canB at hc
      by_cases h1 : hp < 0 <;> by_cases h2 : 63 ≤ hp <;> cases h3 : timeB lo <;> cases h4 : timeB t <;> simp [h1, h2, h3, h4] at hc ⊢
    obtain ⟨T1, hT1⟩ : ∃ T1, timeB lo = T1 := ⟨_, rfl⟩
    obtain ⟨T2, hT2⟩ : ∃ T2, timeB t = T2 := ⟨_, rfl⟩
    simp only [hT1, hT2] at hl ht hcase
    have HG : Hid (FGoes B gf g b (n + 1) f w V) := Lib.hid ((FGoes.refl h).of_below (by rw [hV]; exact below_alloc _ _) |>.mono (Nat.le_succ n))
    clear hst hbx h hc hI hT1 hT2
    rw [hV] at x1 x2 x3 x4 x5
    rcases hcase with d1 | ⟨d1, d2⟩ | ⟨d1, d2, rfl⟩ | ⟨d1, d2, rfl, rfl⟩
    all_goals
      go_enter Tryz.func15, Tryz.ntmps15
      go_wp2_with (first
        | (go_at_call 31; (with_reducible refine (hl _).mono ?_); rintro e wx ⟨rfl, hwx⟩; subst wx)
        | (go_at_call 31; (with_reducible refine (ht _).mono ?_); rintro e wx ⟨rfl, hwx⟩; subst wx))
      go_ret
      refine ⟨rfl, ?_⟩
      have := HG.out
      rw [hV] at this
      simpa using this
  | true =>
    obtain ⟨⟨h0, h1⟩, hlo, hti⟩ := canB_iff.1 hc
    have d1 : decide (hp < 0) = false := decide_eq_false (by omega)
    have d2 : decide (63 ≤ hp) = false := decide_eq_false (by omega)
    have e5 := IntWalk.i64_in (hp + 1) (by omega)
    simp only [(timeB_iff lo).2 hlo] at hl
    simp only [(timeB_iff t).2 hti] at ht
    have hkeep := fun W b' n' f' (hw : Fw w B gf g b 63 C f' b' n' W) => keep_any W B gf g b' n' f' hw.fo t hp lo hc
    have HKp := Lib.hid hkeep
    have HFg := Lib.hid (fun W b' n' f' (hw : Fw w B gf g b 63 C f' b' n' W) => forget_any W B gf g b' n' f' hw.fo)
    obtain ⟨S, hS⟩ : ∃ S, hearS f.s r x q = S := ⟨_, rfl⟩
    obtain ⟨D, hD⟩ : ∃ D, hearV f.s r x q = D := ⟨_, rfl⟩
    have hrul := hear_rules f.s r x q
    have hways := hear_ways r x q hI.s
    have hvals : hearV f.s r x q = 0 ∨ hearV f.s r x q = 1 ∨ hearV f.s r x q = 2 := by
      unfold hearV
      split
      · split
        · exact .inr (.inr rfl)
        · exact .inr (.inl rfl)
      · exact .inl rfl
    have hsame : D = 0 → f.at S = f := fun e => by
      rcases hways with ⟨-, k⟩ | ⟨k, -⟩
      · rw [← hS, k]
        rfl
      · rw [hD, e] at k
        exact absurd k (by decide)
    rw [hS] at hrul
    rw [hD] at hvals
    have HHr := Lib.hid (hear_at (HV.out.drew).fo.node hn r x q (wf_of (by have := hr.1; omega) (by have := hr.2; omega)) hx hq hD hS)
    rw [hD, hS]
    have HSm := Lib.hid hsame
    have HRu := Lib.hid hrul
    clear hkeep hst hbx h hc hI hD hS hways hsame hrul h0 h1 hlo hti hr hx hq
    have hvd := HX.out _ _ _ _ HV.out.drew
    have g0 := HV.out.drew.fo.cells.1
    rw [hV] at x1 x2 x3 x4 x5
    go_enter Tryz.func15, Tryz.ntmps15
    go_upto_region 3 with (first
        | (go_at_call 31; (with_reducible refine (hl _).mono ?_); rintro e wx ⟨rfl, hwx⟩; subst wx)
        | (go_at_call 31; (with_reducible refine (ht _).mono ?_); rintro e wx ⟨rfl, hwx⟩; subst wx))
    rw [← hV]
    clear hV x1 x2 x3 x4 x5
    refine region_turns (fun (w' : World) => w'.cell? ⟨gf, 0, none⟩ = some (.pointer (some ⟨g, 0, none⟩)) ∧ w'.cell? ⟨w.heap.size, 1, none⟩ = some (.int .i64 r) ∧ w'.cell? ⟨w.heap.size, 2, none⟩ = some (.int .u16 x) ∧ w'.cell? ⟨w.heap.size, 3, none⟩ = some (.int .u16 q)) (fun j => decide (13 ≤ j)) (by kernel_rfl) (⟨g0, hvd.1, hvd.2.1, hvd.2.2.1⟩) (fun hS => ?_)
    refine Turns.take hS 0 _ rfl (by kernel_rfl) (by kernel_rfl) (by kernel_rfl) (by kernel_rfl) (fun _ _ _ h => h) (by rfl) (fun w' hS' => by (try dsimp only at hS'); go_split_ands; go_simp; (try with_reducible rfl)) ?_
    simp only [Act.put, List.getElem_toArray, List.getElem_cons_succ, List.getElem_cons_zero, List.setIfInBounds_toArray, List.set_cons_zero, List.set_cons_succ]
    refine Turns.take hS 1 _ rfl (by kernel_rfl) (by kernel_rfl) (by kernel_rfl) (by kernel_rfl) (fun _ _ _ h => h) (by rfl) (fun w' hS' => by (try dsimp only at hS'); go_split_ands; go_simp; (try with_reducible rfl)) ?_
    simp only [Act.put, List.getElem_toArray, List.getElem_cons_succ, List.getElem_cons_zero, List.setIfInBounds_toArray, List.set_cons_zero, List.set_cons_succ]
    refine Turns.take hS 2 _ rfl (by kernel_rfl) (by kernel_rfl) (by kernel_rfl) (by kernel_rfl) (fun _ _ _ h => h) (by rfl) (fun w' hS' => by (try dsimp only at hS'); go_split_ands; go_simp; (try with_reducible rfl)) ?_
    simp only [Act.put, List.getElem_toArray, List.getElem_cons_succ, List.getElem_cons_zero, List.setIfInBounds_toArray, List.set_cons_zero, List.set_cons_succ]
    refine Turns.take hS 3 _ rfl (by kernel_rfl) (by kernel_rfl) (by kernel_rfl) (by kernel_rfl) (fun _ _ _ h => h) (by rfl) (fun w' hS' => by (try dsimp only at hS'); go_split_ands; go_simp; (try with_reducible rfl)) ?_
    simp only [Act.put, List.getElem_toArray, List.getElem_cons_succ, List.getElem_cons_zero, List.setIfInBounds_toArray, List.set_cons_zero, List.set_cons_succ]
    refine Turns.take hS 4 _ rfl (by kernel_rfl) (by kernel_rfl) (by kernel_rfl) (by kernel_rfl) (fun _ _ _ h => h) (by rfl) (fun w' hS' => by (try dsimp only at hS'); go_split_ands; go_simp; (try with_reducible rfl)) ?_
    simp only [Act.put, List.getElem_toArray, List.getElem_cons_succ, List.getElem_cons_zero, List.setIfInBounds_toArray, List.set_cons_zero, List.set_cons_succ]
    refine Turns.take hS 5 _ rfl (by kernel_rfl) (by kernel_rfl) (by kernel_rfl) (by kernel_rfl) (fun _ _ _ h => h) (by rfl) (fun w' hS' => by (try dsimp only at hS'); go_split_ands; go_simp; (try with_reducible rfl)) ?_
    simp only [Act.put, List.getElem_toArray, List.getElem_cons_succ, List.getElem_cons_zero, List.setIfInBounds_toArray, List.set_cons_zero, List.set_cons_succ]
    refine Turns.take hS 6 _ rfl (by kernel_rfl) (by kernel_rfl) (by kernel_rfl) (by kernel_rfl) (fun _ _ _ h => h) (by rfl) (fun w' hS' => by (try dsimp only at hS'); go_split_ands; go_simp; (try with_reducible rfl)) ?_
    simp only [Act.put, List.getElem_toArray, List.getElem_cons_succ, List.getElem_cons_zero, List.setIfInBounds_toArray, List.set_cons_zero, List.set_cons_succ]
    refine Turns.take hS 7 _ rfl (by kernel_rfl) (by kernel_rfl) (by kernel_rfl) (by kernel_rfl) (fun _ _ _ h => h) (by rfl) (fun w' hS' => by (try dsimp only at hS'); go_split_ands; go_simp; (try with_reducible rfl)) ?_
    simp only [Act.put, List.getElem_toArray, List.getElem_cons_succ, List.getElem_cons_zero, List.setIfInBounds_toArray, List.set_cons_zero, List.set_cons_succ]
    refine Turns.take hS 8 _ rfl (by kernel_rfl) (by kernel_rfl) (by kernel_rfl) (by kernel_rfl) (fun _ _ _ h => h) (by rfl) (fun w' hS' => by (try dsimp only at hS'); go_split_ands; go_simp; (try with_reducible rfl)) ?_
    simp only [Act.put, List.getElem_toArray, List.getElem_cons_succ, List.getElem_cons_zero, List.setIfInBounds_toArray, List.set_cons_zero, List.set_cons_succ]
    refine Turns.take hS 9 _ rfl (by kernel_rfl) (by kernel_rfl) (by kernel_rfl) (by kernel_rfl) (fun _ _ _ h => h) (by rfl) (fun w' hS' => by (try dsimp only at hS'); go_split_ands; go_simp; (try with_reducible rfl)) ?_
    simp only [Act.put, List.getElem_toArray, List.getElem_cons_succ, List.getElem_cons_zero, List.setIfInBounds_toArray, List.set_cons_zero, List.set_cons_succ]
    refine Turns.take hS 10 _ rfl (by kernel_rfl) (by kernel_rfl) (by kernel_rfl) (by kernel_rfl) (fun _ _ _ h => h) (by rfl) (fun w' hS' => by (try dsimp only at hS'); go_split_ands; go_simp; (try with_reducible rfl)) ?_
    simp only [Act.put, List.getElem_toArray, List.getElem_cons_succ, List.getElem_cons_zero, List.setIfInBounds_toArray, List.set_cons_zero, List.set_cons_succ]
    refine Turns.next 11 rfl (by kernel_rfl) (by rfl) (fun K hK => ?_)
    go_simp
    go_at_call 32
    refine HHr.out.mono ?_
    rintro e w4 ⟨rfl, hg4⟩
    obtain ⟨b4, hW4⟩ := HV.out.drew.goes (HV.out.drew.fo.node_goes hg4 HRu.out)
    have HW4 := Lib.hid hW4
    have hv4 := HX.out _ _ _ _ hW4
    have g4 := hW4.fo.cells.1
    clear hg4 hW4
    refine hK.out _ _ (show (fun (w' : World) => w'.cell? ⟨gf, 0, none⟩ = some (.pointer (some ⟨g, 0, none⟩)) ∧ w'.cell? ⟨w.heap.size, 1, none⟩ = some (.int .i64 r) ∧ w'.cell? ⟨w.heap.size, 2, none⟩ = some (.int .u16 x) ∧ w'.cell? ⟨w.heap.size, 3, none⟩ = some (.int .u16 q)) _ from ⟨g4, hv4.1, hv4.2.1, hv4.2.2.1⟩) ?_
    clear hK K hS
    have hS := (show (fun (w' : World) => w'.cell? ⟨gf, 0, none⟩ = some (.pointer (some ⟨g, 0, none⟩)) ∧ w'.cell? ⟨w.heap.size, 1, none⟩ = some (.int .i64 r) ∧ w'.cell? ⟨w.heap.size, 2, none⟩ = some (.int .u16 x) ∧ w'.cell? ⟨w.heap.size, 3, none⟩ = some (.int .u16 q)) _ from ⟨g4, hv4.1, hv4.2.1, hv4.2.2.1⟩)
    refine Turns.take hS 12 _ rfl (by kernel_rfl) (by kernel_rfl) (by kernel_rfl) (by kernel_rfl) (fun _ _ _ h => h) (by rfl) (fun w' hS' => by (try dsimp only at hS'); go_split_ands; go_simp; (try with_reducible rfl)) ?_
    simp only [Act.put, List.getElem_toArray, List.getElem_cons_succ, List.getElem_cons_zero, List.setIfInBounds_toArray, List.set_cons_zero, List.set_cons_succ]
    refine Turns.rest (late_done (by kernel_rfl)) ?_
    refine any_tail 13 (by rfl) (by kernel_rfl) ?_
    simp only [List.drop_succ_cons, List.drop_zero]
    clear hS
    have z4 := hv4.2.2.2.1
    have z5 := hv4.2.2.2.2
    clear hvd g0 hv4
    rcases hvals with rfl | rfl | rfl
    · go_wp2
      go_ret
      refine ⟨rfl, ?_⟩
      have := HW4.out.end
      rw [HSm.out (by trivial)] at this
      exact this
    · have hk := HKp.out _ _ _ _ HW4.out
      go_wp2_with (go_at_call 34; refine hk.mono ?_; rintro e w5 ⟨rfl, hg5⟩; obtain ⟨b5, hW5⟩ := HW4.out.goes hg5; have HW5 := Lib.hid hW5; clear hg5 hW5 hk)
      go_ret
      exact ⟨rfl, HW5.out.end⟩
    · have hfg := HFg.out _ _ _ _ HW4.out
      go_wp2_with (first
        | (go_at_call 33; refine hfg.mono ?_; rintro e w5 ⟨rfl, hg5⟩; obtain ⟨b5, hW5⟩ := HW4.out.goes hg5; have HW5 := Lib.hid hW5; have hk := HKp.out _ _ _ _ hW5; have hv5 := HX.out _ _ _ _ hW5; have y4 := hv5.2.2.2.1; have y5 := hv5.2.2.2.2; clear hg5 hW5 hfg hv5)
        | (go_at_call 34; refine hk.mono ?_; rintro e w6 ⟨rfl, hg6⟩; obtain ⟨b6, hW6⟩ := HW5.out.goes hg6; have HW6 := Lib.hid hW6; clear hg6 hW6 hk))
      go_ret
      exact ⟨rfl, HW6.out.end⟩
end Go.Proofs.YtgmeakcfiaopcaaGreat
