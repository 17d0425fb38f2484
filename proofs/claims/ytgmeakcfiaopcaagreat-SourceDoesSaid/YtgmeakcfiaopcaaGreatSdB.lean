/- The document's source: Time; the law's comparison. -/
import Derived.Test.YtgmeakcfiaopcaaGreatSdA
import Derived.Test.YtgmeakcfiaopcaaGreatFdK
import Derived.BigQuiet
import Derived.Deep.QuietTactic
namespace Go.Proofs.YtgmeakcfiaopcaaGreat
open Go.RowKit
set_option linter.unusedVariables false
set_option linter.unusedSimpArgs false

/-- While an answer is made: the result's block, nothing older changed; what a call keeps besides. -/
structure Ad (w0 : World) (o : Nat) (rs : Array Value) (w : World) : Prop where
  res : Holds w o 70 rs
  below : Below w0.heap.size w0 w
  new : w0.heap.size ≤ o
section
variable {w0 w w' : World} {o : Nat} {rs : Array Value}
theorem Ad.lt (h : Ad w0 o rs w) : w0.heap.size < w.heap.size := Nat.lt_of_le_of_lt h.new h.res.lt
theorem Ad.next (h : Ad w0 o rs w) (hb : Below w.heap.size w w') : Ad w0 o rs w' := ⟨h.res.below hb h.res.lt, h.below.trans (hb.mono (Nat.le_of_lt h.lt)), h.new⟩
theorem Ad.drewN (h : Ad w0 o rs w) (n : Nat) : Ad w0 o rs (w.drewN n) := h.next (below_drewN (Below.refl _ _) n)
theorem Ad.alloc (h : Ad w0 o rs w) (x : Obj) : Ad w0 o rs (w.alloc x) := h.next (below_alloc _ _)
theorem Ad.answer (h : Ad w0 o rs w) (l : List Value) : Ad w0 o l.toArray (w.setRow o l.toArray) := by
  have hn := h.new
  exact ⟨h.res.row _, Below.chg h.below (Chg.of_grown (grown_row w o l.toArray) (S := fun k => k = o) (fun k e => by cases e; rfl)) (Nat.le_of_lt h.lt) (fun k e => by omega), hn⟩
theorem Ad.other (h : Ad w0 o rs w) (x : Nat) (l : List Value) (hx : o < x) : Ad w0 o rs (w.setRow x l.toArray) := by
  have hc := Chg.of_grown (grown_row w x l.toArray) (S := fun k => k = x) (fun k e => by cases e; rfl)
  have hn := h.new
  exact ⟨h.res.chg hc (fun e => by omega), Below.chg h.below hc (Nat.le_of_lt h.lt) (fun k e => by omega), hn⟩
theorem Ad.set (h : Ad w0 o rs w) (x i : Nat) (u : Value) (hx : o < x) : Ad w0 o rs (w.setCell ⟨x, i, none⟩ u) := by
  have hc := Chg.set (S := fun k => k = x) w x i u rfl
  have hn := h.new
  exact ⟨h.res.chg hc (fun e => by omega), Below.chg h.below hc (Nat.le_of_lt h.lt) (fun k e => by omega), hn⟩
end
theorem Ad.start (w : World) (rs : Array Value) : Ad w w.heap.size rs (w.alloc (.cells rs 70)) := ⟨Holds.new _ _ _, below_alloc _ _, Nat.le_refl _⟩
set_option maxHeartbeats 4000000 in
set_option maxRecDepth 100000 in
theorem dtell_any (w : World) (gd ge gm : Nat) (A : Option Addr) (c : Nat) (f : FS) (a : AS) (h : Df w gd ge A c f) (hS : Ds w gm a) (hI : FInv f) (hA : AInv a) (lo t hp r b y v : Int) (ht : STime f a lo t hp r b y v) :
    Calls Tryz.prog 21 #[.pointer (some ⟨gm, 0, none⟩), .pointer (some ⟨gd, 0, none⟩), .int .i64 lo] w fun e w' => e = .returned (.tuple #[.agg #[.int .i64 t, .int .i64 hp, .int .i64 r, .int .u16 b, .int .i64 y], .int .i64 v]) ∧ Below w.heap.size w w' := by
  have hb0 := below_alloc w (.cells #[.int .i64 0, .int .i64 0, .int .i64 0, .int .u16 0, .int .i64 0] 70)
  have hf1 := h.below hb0
  have hs1 := hS.below hb0
  have hsy := rsynced_any _ gd ge A c f hf1
  have HF := Lib.hid hf1
  have HK := Lib.hid (Ad.start w #[.int .i64 0, .int .i64 0, .int .i64 0, .int .u16 0, .int .i64 0])
  have hao := hA.off
  have hsp : splice ([.int .i64 0, .int .i64 0, .int .i64 0, .int .u16 0, .int .i64 0] : List Value) 0 ([.int .i64 0, .int .i64 0, .int .i64 0, .int .u16 0, .int .i64 0] : List Value) = [.int .i64 0, .int .i64 0, .int .i64 0, .int .u16 0, .int .i64 0] := splice_all _ _ rfl
  have hspx : splice ([.int .i64 0, .int .i64 0, .int .i64 0, .int .u16 0, .int .i64 0] : List Value) 0 ([.int .i64 t, .int .i64 hp, .int .i64 r, .int .u16 b, .int .i64 y] : List Value) = [.int .i64 t, .int .i64 hp, .int .i64 r, .int .u16 b, .int .i64 y] := splice_all _ _ rfl
  rcases ht with ⟨e1, t', hp', v', ht, hout⟩ | ⟨e1, e2, rfl, rfl, rfl, rfl, rfl, rfl⟩ | ⟨e1, e2, e3, rfl, rfl, rfl, rfl, rfl, rfl⟩ | ⟨e1, e2, e3, e4, rfl, rfl, rfl, rfl, rfl, rfl⟩
  · rw [e1] at hsy
    have HTm := Lib.hid (fun W (hw : Df W gd ge A c f) => rftell_any W gd ge A c f hw hI lo t' hp' v' ht)
    rcases hout with ⟨rfl, rfl, rfl, rfl, rfl, rfl, rfl⟩ | ⟨hv, rfl, rfl, rfl, rfl, rfl, rfl⟩
    · obtain ⟨m0, m1, hm1⟩ : ∃ m0 m1, saidV f.s = (m0, m1) := ⟨_, _, rfl⟩
      obtain ⟨cc, hcc⟩ : ∃ cc, saidB f.s = cc := ⟨_, rfl⟩
      have HMk := Lib.hid (fun W (hw : Df W gd ge A c f) => rmark_at hw.node hI.s hm1 hcc)
      have HMi := Lib.hid (fun W (hw : Df W gd ge A c f) => rmine2_any W gd ge A c f hw)
      have HCe := Lib.hid (fun W (hw : Df W gd ge A c f) => (⟨hw.cells.1, hw.node.cells.2.2.2.2.2.1⟩ : W.cell? ⟨gd, 0, none⟩ = some (.pointer (some ⟨ge, 0, none⟩)) ∧ W.cell? ⟨ge, 5, none⟩ = some (.int .i64 f.s.root)))
      have hm0 : (saidV f.s).1 = m0 := by rw [hm1]
      obtain ⟨X, hX⟩ : ∃ X, minB f = X := ⟨_, rfl⟩
      simp only [hX] at HMi
      rw [hm0, hX] at hspx ⊢
      obtain ⟨rr, hrr⟩ : ∃ rr, f.s.root = rr := ⟨_, rfl⟩
      simp only [hrr] at HCe hspx ⊢
      have dv : ((0 : Int) != 0) = false := rfl
      clear h hS hI hA hf1 hs1 hb0 ht e1 hsp hao hm1 hcc hm0 hX hrr
      cases X
      · clear hspx
        go_enter Tryz.func21, Tryz.ntmps21
        go_wp2_with (first
          | (go_at_call 47; (with_reducible refine hsy.mono ?_); rintro e w2 ⟨rfl, nq, rfl⟩; replace HK := Lib.hid (HK.out.drewN nq); replace HF := Lib.hid (HF.out.drewN nq); have htm := HTm.out _ HF.out)
          | (go_at_call 51; refine htm.mono ?_; rintro e w3 ⟨rfl, hb3⟩; replace HK := Lib.hid (HK.out.next hb3); replace HF := Lib.hid (HF.out.below hb3); have k0 := (HCe.out _ HF.out).1; have hmk := HMk.out _ HF.out; clear hb3 htm)
          | (go_at_call 48; refine hmk.mono ?_; rintro e w4 ⟨rfl, hb4⟩; replace HK := Lib.hid (HK.out.next hb4); replace HF := Lib.hid (HF.out.below hb4); have hmi := HMi.out _ HF.out; clear hb4 hmk k0)
          | (go_at_call 45; (with_reducible refine hmi.mono ?_); rintro e w5 ⟨rfl, mq, rfl⟩; replace HK := Lib.hid (HK.out.drewN mq); obtain ⟨q0, q5⟩ := HCe.out _ (HF.out.drewN mq))
          | (refine wpList_store_at rfl 70 (.tmp 6) (.tmp 59) rfl (w.heap.size) 0 [.int .i64 t, .int .i64 hp, .int .i64 rr, .int .u16 m0, .int .i64 2] rfl rfl 70 [.int .i64 0, .int .i64 0, .int .i64 0, .int .u16 0, .int .i64 0] HK.out.res (by kernel_rfl) (Nat.le_refl 5) (one_ans _ _ _ _ _) ?_; rw [splice_all (α := Value) [.int .i64 0, .int .i64 0, .int .i64 0, .int .u16 0, .int .i64 0] [.int .i64 t, .int .i64 hp, .int .i64 rr, .int .u16 m0, .int .i64 2] rfl]; replace HK := Lib.hid (HK.out.answer [.int .i64 t, .int .i64 hp, .int .i64 rr, .int .u16 m0, .int .i64 2])))
        refine bodyPost_ret (results_row_tmp rfl _ _ (w.heap.size) 70 [.int .i64 t, .int .i64 hp, .int .i64 rr, .int .u16 m0, .int .i64 2] _ _ rfl HK.out.res Tryz.underlying70 rfl (by kernel_rfl) rfl) rfl ?_
        exact ⟨rfl, HK.out.below⟩
      · clear hspx
        go_enter Tryz.func21, Tryz.ntmps21
        go_wp2_with (first
          | (go_at_call 47; (with_reducible refine hsy.mono ?_); rintro e w2 ⟨rfl, nq, rfl⟩; replace HK := Lib.hid (HK.out.drewN nq); replace HF := Lib.hid (HF.out.drewN nq); have htm := HTm.out _ HF.out)
          | (go_at_call 51; refine htm.mono ?_; rintro e w3 ⟨rfl, hb3⟩; replace HK := Lib.hid (HK.out.next hb3); replace HF := Lib.hid (HF.out.below hb3); have k0 := (HCe.out _ HF.out).1; have hmk := HMk.out _ HF.out; clear hb3 htm)
          | (go_at_call 48; refine hmk.mono ?_; rintro e w4 ⟨rfl, hb4⟩; replace HK := Lib.hid (HK.out.next hb4); replace HF := Lib.hid (HF.out.below hb4); have hmi := HMi.out _ HF.out; clear hb4 hmk k0)
          | (go_at_call 45; (with_reducible refine hmi.mono ?_); rintro e w5 ⟨rfl, mq, rfl⟩; replace HK := Lib.hid (HK.out.drewN mq); obtain ⟨q0, q5⟩ := HCe.out _ (HF.out.drewN mq))
          | (refine wpList_store_at rfl 70 (.tmp 6) (.tmp 48) rfl (w.heap.size) 0 [.int .i64 t, .int .i64 hp, .int .i64 rr, .int .u16 m0, .int .i64 1] rfl rfl 70 [.int .i64 0, .int .i64 0, .int .i64 0, .int .u16 0, .int .i64 0] HK.out.res (by kernel_rfl) (Nat.le_refl 5) (one_ans _ _ _ _ _) ?_; rw [splice_all (α := Value) [.int .i64 0, .int .i64 0, .int .i64 0, .int .u16 0, .int .i64 0] [.int .i64 t, .int .i64 hp, .int .i64 rr, .int .u16 m0, .int .i64 1] rfl]; replace HK := Lib.hid (HK.out.answer [.int .i64 t, .int .i64 hp, .int .i64 rr, .int .u16 m0, .int .i64 1])))
        refine bodyPost_ret (results_row_tmp rfl _ _ (w.heap.size) 70 [.int .i64 t, .int .i64 hp, .int .i64 rr, .int .u16 m0, .int .i64 1] _ _ rfl HK.out.res Tryz.underlying70 rfl (by kernel_rfl) rfl) rfl ?_
        exact ⟨rfl, HK.out.below⟩
    · have dv : (v != 0) = true := by simpa using hv
      clear h hS hI hA hf1 hs1 hb0 ht e1 hspx hao hv
      go_enter Tryz.func21, Tryz.ntmps21
      go_wp2_with (first
        | (go_at_call 47; (with_reducible refine hsy.mono ?_); rintro e w2 ⟨rfl, nq, rfl⟩; replace HK := Lib.hid (HK.out.drewN nq); replace HF := Lib.hid (HF.out.drewN nq); have htm := HTm.out _ HF.out)
        | (go_at_call 51; refine htm.mono ?_; rintro e w3 ⟨rfl, hb3⟩; replace HK := Lib.hid (HK.out.next hb3); clear hb3 htm)
        | (refine wpList_store_at rfl 70 (.tmp 6) (.tmp 25) rfl (w.heap.size) 0 [.int .i64 0, .int .i64 0, .int .i64 0, .int .u16 0, .int .i64 0] rfl rfl 70 [.int .i64 0, .int .i64 0, .int .i64 0, .int .u16 0, .int .i64 0] HK.out.res (by kernel_rfl) (Nat.le_refl 5) (one_ans _ _ _ _ _) ?_; rw [hsp]; replace HK := Lib.hid (HK.out.answer [.int .i64 0, .int .i64 0, .int .i64 0, .int .u16 0, .int .i64 0])))
      refine bodyPost_ret (results_row_tmp rfl _ _ (w.heap.size) 70 [.int .i64 0, .int .i64 0, .int .i64 0, .int .u16 0, .int .i64 0] _ _ rfl HK.out.res Tryz.underlying70 rfl (by kernel_rfl) rfl) rfl ?_
      exact ⟨rfl, HK.out.below⟩
  · rw [e1] at hsy
    obtain ⟨lo1, off1, hp1, ro1, bo1, age1, hD, hage, hrel⟩ := hs1
    rw [e2] at hD
    unfold dsC at hD
    have HD := Lib.hid hD
    clear h hS hI hA hf1 hb0 e1 e2 hspx hao hD hage hrel
    go_enter Tryz.func21, Tryz.ntmps21
    go_wp2_with (first
      | (go_at_call 47; (with_reducible refine hsy.mono ?_); rintro e w2 ⟨rfl, nq, rfl⟩; replace HK := Lib.hid (HK.out.drewN nq); replace HF := Lib.hid (HF.out.drewN nq); have z7 := (HD.out.drewN nq).cell 7)
      | (refine wpList_store_at rfl 70 (.tmp 6) (.tmp 65) rfl (w.heap.size) 0 [.int .i64 0, .int .i64 0, .int .i64 0, .int .u16 0, .int .i64 0] rfl rfl 70 [.int .i64 0, .int .i64 0, .int .i64 0, .int .u16 0, .int .i64 0] HK.out.res (by kernel_rfl) (Nat.le_refl 5) (one_ans _ _ _ _ _) ?_; rw [hsp]; replace HK := Lib.hid (HK.out.answer [.int .i64 0, .int .i64 0, .int .i64 0, .int .u16 0, .int .i64 0])))
    refine bodyPost_ret (results_row_tmp rfl _ _ (w.heap.size) 70 [.int .i64 0, .int .i64 0, .int .i64 0, .int .u16 0, .int .i64 0] _ _ rfl HK.out.res Tryz.underlying70 rfl (by kernel_rfl) rfl) rfl ?_
    exact ⟨rfl, HK.out.below⟩
  · rw [e1] at hsy
    obtain ⟨lo1, off1, hp1, ro1, bo1, age1, hD, hage, hrel⟩ := hs1
    obtain ⟨rfl, rfl, rfl, rfl, rfl, -⟩ := hrel e2
    rw [e2] at hD
    unfold dsC at hD
    have HD := Lib.hid hD
    obtain ⟨O, hO⟩ : ∃ O, a.off = O := ⟨_, rfl⟩
    rw [hO] at HD hao e3
    have hw : decide (lo < 0) = true ∨ decide (lo < 0) = false ∧ decide (1125899906842624 < lo) = true ∨ decide (lo < 0) = false ∧ decide (1125899906842624 < lo) = false ∧ IntKind.i64.wrap (lo + O) = lo + O ∧ decide (lo + O < 0) = true ∨
        decide (lo < 0) = false ∧ decide (1125899906842624 < lo) = false ∧ IntKind.i64.wrap (lo + O) = lo + O ∧ decide (lo + O < 0) = false ∧ decide (1125899906842624 < lo + O) = true := by
      by_cases k1 : lo < 0
      · exact .inl (decide_eq_true k1)
      by_cases k2 : 1125899906842624 < lo
      · exact .inr (.inl ⟨decide_eq_false k1, decide_eq_true k2⟩)
      have ew := IntWalk.i64_in (lo + O) (by omega)
      have t1 : timeB lo = true := decide_eq_true (by omega)
      have t2 : timeB (lo + O) = false := by
        rcases e3 with e3 | e3
        · rw [t1] at e3
          cases e3
        · exact e3.2
      have t3 := timeB_no t2
      by_cases k3 : lo + O < 0
      · exact .inr (.inr (.inl ⟨decide_eq_false k1, decide_eq_false k2, ew, decide_eq_true k3⟩))
      · exact .inr (.inr (.inr ⟨decide_eq_false k1, decide_eq_false k2, ew, decide_eq_false k3, decide_eq_true (by unfold CanT at t3; omega)⟩))
    clear h hS hI hA hf1 hb0 e1 e2 e3 hspx hao hD hage hrel hO
    rcases hw with k1 | ⟨k1, k2⟩ | ⟨k1, k2, ew, k3⟩ | ⟨k1, k2, ew, k3, k4⟩
    all_goals
      go_enter Tryz.func21, Tryz.ntmps21
      go_wp2_with (first
        | (go_at_call 47; (with_reducible refine hsy.mono ?_); rintro e w2 ⟨rfl, nq, rfl⟩; replace HK := Lib.hid (HK.out.drewN nq); replace HF := Lib.hid (HF.out.drewN nq); have z2 := (HD.out.drewN nq).cell 2; have z7 := (HD.out.drewN nq).cell 7)
        | (refine wpList_store_at rfl 70 (.tmp 6) (.tmp 92) rfl (w.heap.size) 0 [.int .i64 0, .int .i64 0, .int .i64 0, .int .u16 0, .int .i64 0] rfl rfl 70 [.int .i64 0, .int .i64 0, .int .i64 0, .int .u16 0, .int .i64 0] HK.out.res (by kernel_rfl) (Nat.le_refl 5) (one_ans _ _ _ _ _) ?_; rw [hsp]; replace HK := Lib.hid (HK.out.answer [.int .i64 0, .int .i64 0, .int .i64 0, .int .u16 0, .int .i64 0])))
      refine bodyPost_ret (results_row_tmp rfl _ _ (w.heap.size) 70 [.int .i64 0, .int .i64 0, .int .i64 0, .int .u16 0, .int .i64 0] _ _ rfl HK.out.res Tryz.underlying70 rfl (by kernel_rfl) rfl) rfl ?_
      exact ⟨rfl, HK.out.below⟩
  · rw [e1] at hsy
    obtain ⟨lo1, off1, hp1, ro1, bo1, age1, hD, hage, hrel⟩ := hs1
    obtain ⟨rfl, rfl, rfl, rfl, rfl, -⟩ := hrel e2
    rw [e2] at hD
    obtain ⟨L0, a1, O, H, R, B, lf⟩ := a
    dsimp only at hD hao e4 hspx ⊢
    unfold dsC at hD
    have HD := Lib.hid hD
    obtain ⟨k0, k1⟩ := (timeB_iff lo).1 e3
    obtain ⟨k2, k3⟩ := (timeB_iff _).1 e4
    have d1 : decide (lo < 0) = false := decide_eq_false (by omega)
    have d2 : decide (1125899906842624 < lo) = false := decide_eq_false (by omega)
    have ew := IntWalk.i64_in (lo + O) (by omega)
    have d3 : decide (lo + O < 0) = false := decide_eq_false (by omega)
    have d4 : decide (1125899906842624 < lo + O) = false := decide_eq_false (by omega)
    clear h hS hI hA hf1 hb0 e1 e2 e3 e4 hsp hao hD hage hrel k0 k1 k2 k3
    go_enter Tryz.func21, Tryz.ntmps21
    go_upto_region 13 with (first
      | (go_at_call 47; (with_reducible refine hsy.mono ?_); rintro e w2 ⟨rfl, nq, rfl⟩; replace HK := Lib.hid (HK.out.drewN nq); replace HF := Lib.hid (HF.out.drewN nq); have z2 := (HD.out.drewN nq).cell 2; have z7 := (HD.out.drewN nq).cell 7))
    replace HK : Hid (Ad w w.heap.size _ (World.drewN _ nq).drew) := Lib.hid (HK.out.drewN 1)
    have HE : Hid (Holds (World.drewN _ nq).drew gm 53 _) := Lib.hid ((HD.out.drewN nq).drewN 1)
    clear z2 z7
    refine region_turns (fun (w' : World) => w'.cell? ⟨gm, 2, none⟩ = some (.int .i64 O) ∧ w'.cell? ⟨gm, 3, none⟩ = some (.int .i64 H) ∧ w'.cell? ⟨gm, 4, none⟩ = some (.int .i64 R) ∧ w'.cell? ⟨gm, 5, none⟩ = some (.int .u16 B)) (fun j => decide (23 ≤ j)) (by kernel_rfl) (⟨HE.out.cell 2, HE.out.cell 3, HE.out.cell 4, HE.out.cell 5⟩) (fun hS => ?_)
    refine Turns.take hS 0 _ rfl (by kernel_rfl) (by kernel_rfl) (by kernel_rfl) (by kernel_rfl) (fun _ _ _ h => h) (by rfl) (fun w' hS' => by (try dsimp only at hS'); go_split_ands; go_simp; (try with_reducible rfl)) ?_
    simp only [Act.put, List.getElem_toArray, List.getElem_cons_succ, List.getElem_cons_zero, List.setIfInBounds_toArray, List.set_cons_zero, List.set_cons_succ]
    refine Turns.take hS 1 _ rfl (by kernel_rfl) (by kernel_rfl) (by kernel_rfl) (by kernel_rfl) (fun _ _ _ h => h) (by rfl) (fun w' hS' => by (try dsimp only at hS'); go_split_ands; go_simp; (try with_reducible rfl)) ?_
    simp only [Act.put, List.getElem_toArray, List.getElem_cons_succ, List.getElem_cons_zero, List.setIfInBounds_toArray, List.set_cons_zero, List.set_cons_succ]
    refine Turns.take hS 2 _ rfl (by kernel_rfl) (by kernel_rfl) (by kernel_rfl) (by kernel_rfl) (fun _ _ _ h => h) (by rfl) (fun w' hS' => by (try dsimp only at hS'); go_split_ands; go_simp; (try with_reducible rfl)) ?_
    simp only [Act.put, List.getElem_toArray, List.getElem_cons_succ, List.getElem_cons_zero, List.setIfInBounds_toArray, List.set_cons_zero, List.set_cons_succ]
    refine Turns.take hS 3 _ rfl (by kernel_rfl) (by kernel_rfl) (by kernel_rfl) (by kernel_rfl) (fun _ _ _ h => h) (by rfl) (fun w' hS' => by (try dsimp only at hS'); go_split_ands; go_simp; (try with_reducible rfl)) ?_
    simp only [Act.put, List.getElem_toArray, List.getElem_cons_succ, List.getElem_cons_zero, List.setIfInBounds_toArray, List.set_cons_zero, List.set_cons_succ]
    refine Turns.take hS 4 _ rfl (by kernel_rfl) (by kernel_rfl) (by kernel_rfl) (by kernel_rfl) (fun _ _ _ h => h) (by rfl) (fun w' hS' => by (try dsimp only at hS'); go_split_ands; go_simp; (try with_reducible rfl)) ?_
    simp only [Act.put, List.getElem_toArray, List.getElem_cons_succ, List.getElem_cons_zero, List.setIfInBounds_toArray, List.set_cons_zero, List.set_cons_succ]
    refine Turns.take hS 5 _ rfl (by kernel_rfl) (by kernel_rfl) (by kernel_rfl) (by kernel_rfl) (fun _ _ _ h => h) (by rfl) (fun w' hS' => by (try dsimp only at hS'); go_split_ands; go_simp; (try with_reducible rfl)) ?_
    simp only [Act.put, List.getElem_toArray, List.getElem_cons_succ, List.getElem_cons_zero, List.setIfInBounds_toArray, List.set_cons_zero, List.set_cons_succ]
    refine Turns.take hS 6 _ rfl (by kernel_rfl) (by kernel_rfl) (by kernel_rfl) (by kernel_rfl) (fun _ _ _ h => h) (by rfl) (fun w' hS' => by (try dsimp only at hS'); go_split_ands; go_simp; (try with_reducible rfl)) ?_
    simp only [Act.put, List.getElem_toArray, List.getElem_cons_succ, List.getElem_cons_zero, List.setIfInBounds_toArray, List.set_cons_zero, List.set_cons_succ]
    refine Turns.take hS 7 _ rfl (by kernel_rfl) (by kernel_rfl) (by kernel_rfl) (by kernel_rfl) (fun _ _ _ h => h) (by rfl) (fun w' hS' => by (try dsimp only at hS'); go_split_ands; go_simp; (try with_reducible rfl)) ?_
    simp only [Act.put, List.getElem_toArray, List.getElem_cons_succ, List.getElem_cons_zero, List.setIfInBounds_toArray, List.set_cons_zero, List.set_cons_succ]
    refine Turns.take hS 8 _ rfl (by kernel_rfl) (by kernel_rfl) (by kernel_rfl) (by kernel_rfl) (fun _ _ _ h => h) (by rfl) (fun w' hS' => by (try dsimp only at hS'); go_split_ands; go_simp; (try with_reducible rfl)) ?_
    simp only [Act.put, List.getElem_toArray, List.getElem_cons_succ, List.getElem_cons_zero, List.setIfInBounds_toArray, List.set_cons_zero, List.set_cons_succ]
    refine Turns.take hS 9 _ rfl (by kernel_rfl) (by kernel_rfl) (by kernel_rfl) (by kernel_rfl) (fun _ _ _ h => h) (by rfl) (fun w' hS' => by (try dsimp only at hS'); go_split_ands; go_simp; (try with_reducible rfl)) ?_
    simp only [Act.put, List.getElem_toArray, List.getElem_cons_succ, List.getElem_cons_zero, List.setIfInBounds_toArray, List.set_cons_zero, List.set_cons_succ]
    refine Turns.take hS 10 _ rfl (by kernel_rfl) (by kernel_rfl) (by kernel_rfl) (by kernel_rfl) (fun _ _ _ h => h) (by rfl) (fun w' hS' => by (try dsimp only at hS'); go_split_ands; go_simp; (try with_reducible rfl)) ?_
    simp only [Act.put, List.getElem_toArray, List.getElem_cons_succ, List.getElem_cons_zero, List.setIfInBounds_toArray, List.set_cons_zero, List.set_cons_succ]
    refine Turns.take hS 11 _ rfl (by kernel_rfl) (by kernel_rfl) (by kernel_rfl) (by kernel_rfl) (fun _ _ _ h => h) (by rfl) (fun w' hS' => by (try dsimp only at hS'); go_split_ands; go_simp; (try with_reducible rfl)) ?_
    simp only [Act.put, List.getElem_toArray, List.getElem_cons_succ, List.getElem_cons_zero, List.setIfInBounds_toArray, List.set_cons_zero, List.set_cons_succ]
    refine Turns.take hS 12 _ rfl (by kernel_rfl) (by kernel_rfl) (by kernel_rfl) (by kernel_rfl) (fun _ _ _ h => h) (by rfl) (fun w' hS' => by (try dsimp only at hS'); go_split_ands; go_simp; (try with_reducible rfl)) ?_
    simp only [Act.put, List.getElem_toArray, List.getElem_cons_succ, List.getElem_cons_zero, List.setIfInBounds_toArray, List.set_cons_zero, List.set_cons_succ]
    refine Turns.take hS 13 _ rfl (by kernel_rfl) (by kernel_rfl) (by kernel_rfl) (by kernel_rfl) (fun _ _ _ h => h) (by rfl) (fun w' hS' => by (try dsimp only at hS'); go_split_ands; go_simp; (try with_reducible rfl)) ?_
    simp only [Act.put, List.getElem_toArray, List.getElem_cons_succ, List.getElem_cons_zero, List.setIfInBounds_toArray, List.set_cons_zero, List.set_cons_succ]
    refine Turns.take hS 14 _ rfl (by kernel_rfl) (by kernel_rfl) (by kernel_rfl) (by kernel_rfl) (fun _ _ _ h => h) (by rfl) (fun w' hS' => by (try dsimp only at hS'); go_split_ands; go_simp; (try with_reducible rfl)) ?_
    simp only [Act.put, List.getElem_toArray, List.getElem_cons_succ, List.getElem_cons_zero, List.setIfInBounds_toArray, List.set_cons_zero, List.set_cons_succ]
    refine Turns.take hS 15 _ rfl (by kernel_rfl) (by kernel_rfl) (by kernel_rfl) (by kernel_rfl) (fun _ _ _ h => h) (by rfl) (fun w' hS' => by (try dsimp only at hS'); go_split_ands; go_simp; (try with_reducible rfl)) ?_
    simp only [Act.put, List.getElem_toArray, List.getElem_cons_succ, List.getElem_cons_zero, List.setIfInBounds_toArray, List.set_cons_zero, List.set_cons_succ]
    refine Turns.take hS 16 _ rfl (by kernel_rfl) (by kernel_rfl) (by kernel_rfl) (by kernel_rfl) (fun _ _ _ h => h) (by rfl) (fun w' hS' => by (try dsimp only at hS'); go_split_ands; go_simp; (try with_reducible rfl)) ?_
    simp only [Act.put, List.getElem_toArray, List.getElem_cons_succ, List.getElem_cons_zero, List.setIfInBounds_toArray, List.set_cons_zero, List.set_cons_succ]
    refine Turns.take hS 17 _ rfl (by kernel_rfl) (by kernel_rfl) (by kernel_rfl) (by kernel_rfl) (fun _ _ _ h => h) (by rfl) (fun w' hS' => by (try dsimp only at hS'); go_split_ands; go_simp; (try with_reducible rfl)) ?_
    simp only [Act.put, List.getElem_toArray, List.getElem_cons_succ, List.getElem_cons_zero, List.setIfInBounds_toArray, List.set_cons_zero, List.set_cons_succ]
    refine Turns.take hS 18 _ rfl (by kernel_rfl) (by kernel_rfl) (by kernel_rfl) (by kernel_rfl) (fun _ _ _ h => h) (by rfl) (fun w' hS' => by (try dsimp only at hS'); go_split_ands; go_simp; (try with_reducible rfl)) ?_
    simp only [Act.put, List.getElem_toArray, List.getElem_cons_succ, List.getElem_cons_zero, List.setIfInBounds_toArray, List.set_cons_zero, List.set_cons_succ]
    refine Turns.take hS 19 _ rfl (by kernel_rfl) (by kernel_rfl) (by kernel_rfl) (by kernel_rfl) (fun _ _ _ h => h) (by rfl) (fun w' hS' => by (try dsimp only at hS'); go_split_ands; go_simp; (try with_reducible rfl)) ?_
    simp only [Act.put, List.getElem_toArray, List.getElem_cons_succ, List.getElem_cons_zero, List.setIfInBounds_toArray, List.set_cons_zero, List.set_cons_succ]
    refine Turns.take hS 20 _ rfl (by kernel_rfl) (by kernel_rfl) (by kernel_rfl) (by kernel_rfl) (fun _ _ _ h => h) (by rfl) (fun w' hS' => by (try dsimp only at hS'); go_split_ands; go_simp; (try with_reducible rfl)) ?_
    simp only [Act.put, List.getElem_toArray, List.getElem_cons_succ, List.getElem_cons_zero, List.setIfInBounds_toArray, List.set_cons_zero, List.set_cons_succ]
    refine Turns.next 21 rfl (by kernel_rfl) (by rfl) (fun K hK => ?_)
    simp only [List.getElem_toArray, List.getElem_cons_succ, List.getElem_cons_zero]
    refine wp_store_at 70 (.tmp 6) (.tmp 113) rfl w.heap.size 0 [.int .i64 (lo + O), .int .i64 H, .int .i64 R, .int .u16 B, .int .i64 3] ?hs ?hx 70 [.int .i64 0, .int .i64 0, .int .i64 0, .int .u16 0, .int .i64 0] HK.out.res (by kernel_rfl) (Nat.le_refl 5) (one_ans _ _ _ _ _) ?_
    case hs => first | rfl | simp [Act.eval, Act.put]
    case hx => first | rfl | simp [Act.eval, Act.put]
    rw [hspx]
    have hne : gm ≠ w.heap.size := fun e => HE.out.apart HK.out.res (by decide) e
    replace HE := Lib.hid (HE.out.chg (Chg.of_grown (grown_row _ w.heap.size [.int .i64 (lo + O), .int .i64 H, .int .i64 R, .int .u16 B, .int .i64 3].toArray) (S := fun k => k = w.heap.size) (fun k e => by cases e; rfl)) hne)
    replace HK := Lib.hid (HK.out.answer [.int .i64 (lo + O), .int .i64 H, .int .i64 R, .int .u16 B, .int .i64 3])
    refine hK.out _ _ (show (fun (w' : World) => w'.cell? ⟨gm, 2, none⟩ = some (.int .i64 O) ∧ w'.cell? ⟨gm, 3, none⟩ = some (.int .i64 H) ∧ w'.cell? ⟨gm, 4, none⟩ = some (.int .i64 R) ∧ w'.cell? ⟨gm, 5, none⟩ = some (.int .u16 B)) _ from ⟨HE.out.cell 2, HE.out.cell 3, HE.out.cell 4, HE.out.cell 5⟩) ?_
    clear hK K hS
    have hS := (show (fun (w' : World) => w'.cell? ⟨gm, 2, none⟩ = some (.int .i64 O) ∧ w'.cell? ⟨gm, 3, none⟩ = some (.int .i64 H) ∧ w'.cell? ⟨gm, 4, none⟩ = some (.int .i64 R) ∧ w'.cell? ⟨gm, 5, none⟩ = some (.int .u16 B)) _ from ⟨HE.out.cell 2, HE.out.cell 3, HE.out.cell 4, HE.out.cell 5⟩)
    refine Turns.take hS 22 _ rfl (by kernel_rfl) (by kernel_rfl) (by kernel_rfl) (by kernel_rfl) (fun _ _ _ h => h) (by rfl) (fun w' hS' => by (try dsimp only at hS'); go_split_ands; go_simp; (try with_reducible rfl)) ?_
    simp only [Act.put, List.getElem_toArray, List.getElem_cons_succ, List.getElem_cons_zero, List.setIfInBounds_toArray, List.set_cons_zero, List.set_cons_succ]
    refine Turns.rest (late_done (by kernel_rfl)) ?_
    refine any_tail 23 (by rfl) (by kernel_rfl) ?_
    simp only [List.drop_succ_cons, List.drop_zero]
    clear hS
    go_wp2
    refine bodyPost_ret (results_row_tmp rfl _ _ (w.heap.size) 70 [.int .i64 (lo + O), .int .i64 H, .int .i64 R, .int .u16 B, .int .i64 3] _ _ rfl HK.out.res Tryz.underlying70 rfl (by kernel_rfl) rfl) rfl ?_
    exact ⟨rfl, HK.out.below⟩
theorem lsame_any (w : World) (t hp r b y : Int) : Calls Tryz.prog 22 #[.agg #[.int .i64 t, .int .i64 hp, .int .i64 r, .int .u16 b, .int .i64 y], .agg #[.int .i64 t, .int .i64 hp, .int .i64 r, .int .u16 b, .int .i64 y]] w fun e w' => e = .returned (.bool true) ∧ Below w.heap.size w w' := by
  have h2 := Holds.new (w.alloc (.cells #[.int .i64 t, .int .i64 hp, .int .i64 r, .int .u16 b, .int .i64 y] 44)) 70 #[.int .i64 t, .int .i64 hp, .int .i64 r, .int .u16 b, .int .i64 y]
  have h1 := (Holds.new w 44 #[.int .i64 t, .int .i64 hp, .int .i64 r, .int .u16 b, .int .i64 y]).alloc (.cells #[.int .i64 t, .int .i64 hp, .int .i64 r, .int .u16 b, .int .i64 y] 70)
  rw [size_alloc] at h2
  have HB := Lib.hid (((Below.refl w.heap.size w).alloc (Nat.le_refl _) (.cells #[.int .i64 t, .int .i64 hp, .int .i64 r, .int .u16 b, .int .i64 y] 44)).alloc (by simp) (.cells #[.int .i64 t, .int .i64 hp, .int .i64 r, .int .u16 b, .int .i64 y] 70))
  have e1 : (t == t) = true := by simp
  have e2 : (hp == hp) = true := by simp
  have e3 : (r == r) = true := by simp
  have e4 : (b == b) = true := by simp
  have e5 : (y == y) = true := by simp
  clear h1 h2
  go_enter Tryz.func22, Tryz.ntmps22
  go_wp2
  go_ret
  exact ⟨rfl, HB.out⟩
end Go.Proofs.YtgmeakcfiaopcaaGreat
