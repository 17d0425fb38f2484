/- The document's row of timers: Drop, Set. -/
import Derived.Test.YtfpjicmmnhcfcaaTrM
namespace Go.Proofs.Ytfpjicmmnhcfcaa
open Go.RowKit

section
variable {w w' : World} {B g : Nat} {v : Value} {M N : List One3} {T U : Int}
theorem Rr.lt (h : Rr w B g v M T) : g < w.heap.size := by
  obtain ⟨_, _, A, c, _, hh, _⟩ := h
  exact hh.lt
theorem Rr.own (h : Rr w B g v M T) : v.ownBlock ≠ some g := by
  obtain ⟨_, _, A, c, rfl, hh, he⟩ := h
  exact hh.own_apart he (by decide)
theorem Rr.chg {S : Nat → Prop} (h : Rr w B g v M T) (hc : Chg S w w') (h1 : ¬ S g) (h2 : ∀ q, v.ownBlock = some q → ¬ S q) : Rr w' B g v M T := by
  obtain ⟨hB, hg, A, c, rfl, hh, he⟩ := h
  exact ⟨hB, hg, A, c, rfl, hh.chg hc h1, own_chg he hc h2⟩
theorem Rr.below (h : Rr w B g v M T) (hb : Below w.heap.size w w') : Rr w' B g v M T := h.chg (Chg.of_below (fun _ => False) hb) (fun h => h) (fun _ _ h => h)
theorem Rnow.after {u : World} (hb : Below w.heap.size w u) (h : Rnow B g v N U u w') : Rnow B g v N U w w' := by
  obtain ⟨v', ht, hc, hp⟩ := h
  exact ⟨v', ht, (Chg.of_below (fun k => k = g) hb).trans hc (fun _ _ h => h), fun k hk => (hp k hk).imp id (fun h => Nat.le_trans hb.size h)⟩
end
/-- Behind a call that made a new list: it is laid into the row. -/
theorem rr_put {w w1 : World} {B g : Nat} {v : Value} {T : Int} {N : List One3} {A : Option Addr} {c : Nat} (hB : B ≤ g) (h16 : N.length ≤ 16) (hh : Holds w g 31 #[v, .int .i64 T]) (hb : Below w.heap.size w w1)
    (he : Ones w1 w.heap.size A N.length c N) : Rnow B g v N T w (w1.setCell ⟨g, 0, none⟩ (.slice A N.length c)) := by
  have hk := hh.below hb hh.lt
  have hne := hk.own_apart he (by decide)
  refine ⟨.slice A N.length c, ⟨hB, h16, A, c, rfl, hk.put 0 _, ?_⟩, (Chg.of_below (fun k => k = g) hb).trans (Chg.set w1 g 0 _ (S := fun k => k = g) rfl) (fun _ _ h => h), fun k hk' => .inr (he.lt k hk').1⟩
  exact (own_up he (B' := B) (fun q hq => Nat.le_trans (Nat.le_trans hB (Nat.le_of_lt hh.lt)) (he.lt q hq).1)).kept (row := some g) (grown_set _ _ _ _) (.inr hne)

set_option maxHeartbeats 1000000 in
theorem rdrop_any (w : World) (B g : Nat) (v : Value) (M : List One3) (T what : Int) (h : Rr w B g v M T) :
    Calls Try.prog 11 #[.pointer (some ⟨g, 0, none⟩), .int .i64 what] w fun e w' =>
      e = .returned (.bool (decide ((othersM what M).length < M.length))) ∧ Rnow B g v (othersM what M) T w w' := by
  have hgw := h.lt
  have ho := others_any w B g v M T what h
  obtain ⟨hB, h16, A, c, rfl, hh, he⟩ := h
  have c0 := hh.cell 0
  have hl : (othersM what M).length ≤ M.length := List.length_filter_le _ _
  have hput := fun (w1 : World) (A1 : Option Addr) (c1 : Nat) (hb : Below w.heap.size w w1) (h1 : Ones w1 w.heap.size A1 (othersM what M).length c1 (othersM what M)) => rr_put (B := B) hB (by omega) hh hb h1
  have HP := Lib.hid hput
  have HH := Lib.hid hh
  obtain ⟨N, hN⟩ : ∃ N, othersM what M = N := ⟨_, rfl⟩
  rw [hN] at ho HP hl ⊢
  clear hput hh he hN
  go_enter Try.func11, Try.ntmps11
  go_wp2_with (go_at_call 19; refine ho.mono ?_; rintro e w1 ⟨A1, c1, rfl, h1, hb1⟩; have HB := Lib.hid hb1; have H1 := Lib.hid h1; have k1 := HH.out.below HB.out hgw; have d0 := k1.cell 0; have f0 := k1.soft 0; clear h1 k1)
  go_ret
  exact ⟨ret_bool (by first | rfl | (rw [Bool.eq_iff_iff]; simp)), HP.out _ _ _ HB.out H1.out⟩

/-- What Set answers, and what the row is behind it. -/
def rsetE (what : Int) (M : List One3) : Int := if (othersM what M).length < 16 then 0 else 6
def rsetM (t what : Int) (M : List One3) (T : Int) : List One3 := if (othersM what M).length < 16 then othersM what M ++ [(t, what, T + 1)] else M
def rsetT (what : Int) (M : List One3) (T : Int) : Int := if (othersM what M).length < 16 then T + 1 else T
def Rset (B g : Nat) (v : Value) (t what : Int) (M : List One3) (T : Int) (w : World) (e : Ending) (w' : World) : Prop := e = .returned (.int .i64 (rsetE what M)) ∧ Rnow B g v (rsetM t what M T) (rsetT what M T) w w'
set_option maxHeartbeats 1000000 in
theorem rset_any (w : World) (B g : Nat) (v : Value) (M : List One3) (T t what : Int) (h : Rr w B g v M T) (h0 : 0 ≤ T) (h1 : T ≤ 1000) :
    Calls Try.prog 9 #[.pointer (some ⟨g, 0, none⟩), .int .i64 t, .int .i64 what] w (Rset B g v t what M T w) := by
  have hgw := h.lt
  have ho := others_any w B g v M T what h
  by_cases hlt : (othersM what M).length < 16
  · have e1 : rsetE what M = 0 := by simp [rsetE, hlt]
    have e2 : rsetM t what M T = othersM what M ++ [(t, what, T + 1)] := by simp [rsetM, hlt]
    have e3 : rsetT what M T = T + 1 := by simp [rsetT, hlt]
    unfold Rset
    rw [e1, e2, e3]
    obtain ⟨hB, h16, A, c, rfl, hh, he⟩ := h
    obtain ⟨i0, hi, hz0, hz1, hz2⟩ := info_parts one_info
    have H2 := Lib.hid hz2
    have H1 := Lib.hid hz1
    have H0 := Lib.hid hz0
    have HH := Lib.hid hh
    obtain ⟨N, hN⟩ : ∃ N, othersM what M = N := ⟨_, rfl⟩
    rw [hN] at ho hlt ⊢
    clear hh he hN e1 e2 e3 hz0 hz1 hz2
    have hge : decide (16 ≤ (N.length : Int)) = false := decide_eq_false (by omega)
    go_enter Try.func9, Try.ntmps9
    go_upto_region 5 with (go_at_call 19; refine ho.mono ?_; rintro e w1 ⟨A1, c1, rfl, h1', hb1⟩; have HB := Lib.hid hb1; have HO := Lib.hid h1'; have k1 := HH.out.below HB.out hgw; have HK := Lib.hid k1; have d0 := k1.cell 1; have f0 := k1.soft 1; clear h1' k1 hb1)
    have k2 := HK.out.put 1 (.int .i64 (T + 1))
    have o2 : Ones (w1.setCell ⟨g, 1, none⟩ (.int .i64 (T + 1))) w.heap.size A1 N.length c1 N := HO.out.kept (row := some g) (grown_set _ _ _ _) (.inr (HK.out.own_apart HO.out (by decide)))
    have hb2 : Chg (fun k => k = g) w (w1.setCell ⟨g, 1, none⟩ (.int .i64 (T + 1))) := (Chg.of_below (fun k => k = g) HB.out).trans (Chg.set w1 g 1 _ (S := fun k => k = g) rfl) (fun _ _ h => h)
    have hsz := HB.out.size
    have hsz2 : (w1.setCell ⟨g, 1, none⟩ (.int .i64 (T + 1))).heap.size = w1.heap.size := by simp [World.setCell]
    obtain ⟨W2, hW2⟩ : ∃ W2, w1.setCell ⟨g, 1, none⟩ (.int .i64 (T + 1)) = W2 := ⟨_, rfl⟩
    rw [hW2] at k2 o2 hb2 hsz2 ⊢
    have hnew := Holds.new W2 54 #[.int .i64 t, .int .i64 what, .int .i64 (T + 1)]
    have hsrc : ∀ j u, (ones [(t, what, T + 1)])[j]? = some u → (W2.alloc (.cells #[.int .i64 t, .int .i64 what, .int .i64 (T + 1)] 54)).cell? ((⟨W2.heap.size, 0, none⟩ : Addr).add j) = some u := by
      intro j u hu
      rw [Addr.add_lit, Nat.zero_add, hnew.cell, ← hu]
      simp [ones]
    have d2 := k2.cell 1
    have hsz3 : w.heap.size ≤ (W2.alloc (.cells #[.int .i64 t, .int .i64 what, .int .i64 (T + 1)] 54)).heap.size := by simp; omega
    have HS3 := Lib.hid hsz3
    have HSrc := Lib.hid hsrc
    have HK2 := Lib.hid (k2.alloc (.cells #[.int .i64 t, .int .i64 what, .int .i64 (T + 1)] 54))
    have HO2 := Lib.hid (o2.alloc (.cells #[.int .i64 t, .int .i64 what, .int .i64 (T + 1)] 54))
    have HB2 := Lib.hid (hb2.trans (Chg.of_below (fun k => k = g) (below_alloc W2 (.cells #[.int .i64 t, .int .i64 what, .int .i64 (T + 1)] 54))) (fun _ _ h => h))
    clear hnew hsrc k2 o2 hb2 hW2 d0 f0 ho hsz hsz2 hsz3
    go_wp2_with (at_builtin; refine wpList_append_rowK _ rfl (.tmp 22) (.tmp 30) _ rfl w.heap.size 54 i0 _ 3 24 Try.underlying29 hi H0.out H1.out H2.out rfl (by decide) _ N.length _ rfl HO2.out ⟨W2.heap.size, 0, none⟩ 1 1 (ones [(t, what, T + 1)]) rfl rfl HSrc.out (ones_one _) (by unfold maxLen; omega) (by omega) HS3.out ?_; intro A3 c3 w3 hown3 hg3 hp3; have k3 := HK2.out.grown hg3 (fun e => HK2.out.own_apart HO2.out (by decide) e.symm); have HK3 := Lib.hid k3; have d3 := k3.cell 0; have f3 := k3.soft 0; have HO3 := Lib.hid hown3; have HG3 := Lib.hid hg3; clear hown3 k3 hg3 hp3)
    go_ret
    have hfin : Ones w3 w.heap.size A3 (N.length + 1) c3 (N ++ [(t, what, T + 1)]) := by
      unfold Ones
      rw [ones_append]
      exact HO3.out
    have hne := HK3.out.own_apart hfin (by decide)
    refine ⟨rfl, .slice A3 (N.length + 1) c3, ⟨hB, by simp; omega, A3, c3, by simp, HK3.out.put 0 _, ?_⟩, ?_, fun k hk => .inr (hfin.lt k hk).1⟩
    · rw [List.length_append]
      exact (own_up hfin (B' := B) (fun q hq => Nat.le_trans (Nat.le_trans hB (Nat.le_of_lt hgw)) (hfin.lt q hq).1)).kept (row := some g) (grown_set _ _ _ _) (.inr hne)
    · exact (HB2.out.trans (Chg.of_grown (S := fun k => (Value.slice A1 N.length c1).ownBlock = some k) HG3.out (fun k hk => hk)) (fun k hk h => by have := (HO2.out.lt k h).1; omega)).trans (Chg.set w3 g 0 _ (S := fun k => k = g) rfl) (fun _ _ h => h)
  · have e1 : rsetE what M = 6 := by simp [rsetE, hlt]
    have e2 : rsetM t what M T = M := by simp [rsetM, hlt]
    have e3 : rsetT what M T = T := by simp [rsetT, hlt]
    unfold Rset
    rw [e1, e2, e3]
    have hnow : ∀ w', Below w.heap.size w w' → Rnow B g v M T w w' := fun w' hb => ⟨v, h.below hb, Chg.of_below _ hb, fun _ hk => .inl hk⟩
    have HN := Lib.hid hnow
    obtain ⟨N, hN⟩ : ∃ N, othersM what M = N := ⟨_, rfl⟩
    rw [hN] at ho hlt
    clear hN e1 e2 e3 h hnow
    have hge : decide (16 ≤ (N.length : Int)) = true := decide_eq_true (by omega)
    go_enter Try.func9, Try.ntmps9
    go_wp2_with (go_at_call 19; refine ho.mono ?_; rintro e w1 ⟨A1, c1, rfl, h1', hb1⟩; have HB := Lib.hid hb1; clear h1' hb1)
    go_ret
    exact ⟨rfl, HN.out _ HB.out⟩
end Go.Proofs.Ytfpjicmmnhcfcaa
