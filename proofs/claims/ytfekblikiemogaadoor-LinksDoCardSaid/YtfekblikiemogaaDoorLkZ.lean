/- The first call of each law. -/
import Derived.Test.YtfekblikiemogaaDoorLkX
import Derived.Test.YtfekblikiemogaaDoorLkY
namespace Go.Proofs.YtfekblikiemogaaDoor
open Go.RowKit
set_option linter.unusedVariables false
set_option linter.unusedSimpArgs false

/-- Set, of whatever numbers. -/
theorem set_any (w : World) (B g r : Nat) (M : List Nat) (h : Lk w B g r M) (i k : Int) (on : Bool) : Calls Tryd.prog 12 #[.pointer (some ⟨g, 0, none⟩), .int .i64 i, .int .i64 k, .bool on] w fun e w' =>
    e = .returned (.int .i64 (if mayB M.length i k then 0 else 1)) ∧ Lk w' B g r (afterM M i k on) ∧ Chg (fun b => b = r) w w' :=
  (set_lk w B g r M h i k on).mono fun e w' hd => by
    rcases hd with ⟨h1, rfl, rfl⟩ | ⟨h1, rfl, h2, h3⟩
    · refine ⟨by rw [h1]; rfl, ?_, Chg.refl _ _⟩
      unfold afterM
      rw [h1]
      exact h
    · refine ⟨by rw [h1]; rfl, ?_, h3⟩
      unfold afterM
      rw [h1]
      exact h2
/-- Hops, of whatever node. -/
def HopsAre (M : List Nat) (on : Nat) (i : Int) (H : List Int) : Prop := (inB M.length i = true ∧ IsHops M on i.toNat H) ∨ (inB M.length i = false ∧ H = List.replicate M.length (-1))
theorem hops_any (w : World) (B g r : Nat) (M : List Nat) (h : Lk w B g r M) (hN : Net M) (hT : Tab w) (i : Int) (on : Nat) (hon : on < 18446744073709551616) : Calls Tryd.prog 17 #[.pointer (some ⟨g, 0, none⟩), .int .i64 i, .int .u64 on] w (GaveInts M.length (HopsAre M on i) w) := by
  rcases hb : inB M.length i with _ | _
  · exact (hops_out w B g r M h i hb on).mono fun e w' ⟨b, H, h1, h2, h3, h4, h5, h6⟩ => ⟨b, H, h1, h2, h3, h4, .inr ⟨hb, h5⟩, h6⟩
  · obtain ⟨a, rfl, ha⟩ := of_inB hb
    exact (hops_in w B g r M h hN hT a ha on hon).mono fun e w' ⟨b, H, h1, h2, h3, h4, h5, h6⟩ => ⟨b, H, h1, h2, h3, h4, .inl ⟨hb, h5⟩, h6⟩
theorem HopsAre.one {M : List Nat} {on : Nat} {i : Int} {H H' : List Int} (h : HopsAre M on i H) (h' : HopsAre M on i H') : H = H' := by
  rcases h with ⟨h1, h2⟩ | ⟨h1, h2⟩ <;> rcases h' with ⟨g1, g2⟩ | ⟨g1, g2⟩
  · exact h2.one g2
  · rw [h1] at g1; cases g1
  · rw [h1] at g1; cases g1
  · rw [h2, g2]
theorem HopsAre.len {M : List Nat} {on : Nat} {i : Int} {H : List Int} (h : HopsAre M on i H) : H.length = M.length := by
  rcases h with ⟨_, h⟩ | ⟨_, h⟩
  · exact h.1
  · rw [h]; simp
theorem fit_three : ∀ i, [2, 5, 2].getD i 0 < 18446744073709551616 := fun i => by
  match i with
  | 0 | 1 | 2 => decide
  | _ + 3 => simp [List.getD]
theorem three_all {H : List Int} (h : HopsAre [2, 5, 2] 7 0 H) : H = [0, 1, 2] := by
  have l := (((Layer.start (M := [2, 5, 2]) (on := 7) (a := 0) (by decide) (by decide)).next fit_three).next fit_three).next fit_three
  refine h.one (.inl ⟨by decide, ?_⟩)
  have e := l.done (by decide +kernel)
  have e2 : (setAll (setAll (setAll (List.replicate [2, 5, 2].length (-1)) 0 (bitsOf (7 &&& 2 ^ 0))) (0 + 1) (bitsOf (orAll [2, 5, 2] (bitsOf (7 &&& 2 ^ 0)) &&& (7 &&& (18446744073709551615 - (7 &&& 2 ^ 0)))))) (0 + 1 + 1)
      (bitsOf (orAll [2, 5, 2] (bitsOf (orAll [2, 5, 2] (bitsOf (7 &&& 2 ^ 0)) &&& (7 &&& (18446744073709551615 - (7 &&& 2 ^ 0))))) &&& (7 &&& (18446744073709551615 - (7 &&& 2 ^ 0)) &&& (18446744073709551615 - (orAll [2, 5, 2] (bitsOf (7 &&& 2 ^ 0)) &&& (7 &&& (18446744073709551615 - (7 &&& 2 ^ 0)))))))) : List Int) = [0, 1, 2] := by decide +kernel
  rw [e2] at e
  exact e
theorem three_two {H : List Int} (h : HopsAre [2, 5, 2] 5 0 H) : H = [0, -1, -1] := by
  have l := (Layer.start (M := [2, 5, 2]) (on := 5) (a := 0) (by decide) (by decide)).next fit_three
  refine h.one (.inl ⟨by decide, ?_⟩)
  have e := l.done (by decide +kernel)
  have e2 : (setAll (List.replicate [2, 5, 2].length (-1)) 0 (bitsOf (5 &&& 2 ^ 0)) : List Int) = [0, -1, -1] := by decide +kernel
  rw [e2] at e
  exact e
theorem three_one : afterM (List.replicate 3 0) 0 1 true = [2, 1, 0] := by decide +kernel
theorem three_set : afterM [2, 1, 0] 2 1 true = [2, 5, 2] := by decide +kernel
theorem net_one : Net [2, 1, 0] := by
  rw [← three_one]
  exact (Net.zero 3).after ⟨by decide, fun i => by match i with
    | 0 | 1 | 2 => decide
    | _ + 3 => simp [List.getD]⟩ 0 1 true
theorem net_three : Net [2, 5, 2] := by
  rw [← three_set]
  exact net_one.after ⟨by decide, fun i => by match i with
    | 0 | 1 | 2 => decide
    | _ + 3 => simp [List.getD]⟩ 2 1 true
theorem Lk.chgr {w w' : World} {B g r : Nat} {M : List Nat} (h : Lk w B g r M) (hb : Below w.heap.size w w') : Lk w' B g r M := h.below hb
theorem hops_7 (w : World) (B g r : Nat) (h : Lk w B g r [2, 5, 2]) (hT : Tab w) : Calls Tryd.prog 17 #[.pointer (some ⟨g, 0, none⟩), .int .i64 0, .int .u64 7] w (GaveInts 3 (fun H => H = [0, 1, 2]) w) :=
  (hops_any w B g r _ h net_three hT 0 7 (by decide)).mono fun e w' ⟨b, H, h1, h2, h3, h4, h5, h6⟩ => ⟨b, H, h1, h2, h3, h4, three_all h5, h6⟩
theorem hops_5 (w : World) (B g r : Nat) (h : Lk w B g r [2, 5, 2]) (hT : Tab w) : Calls Tryd.prog 17 #[.pointer (some ⟨g, 0, none⟩), .int .i64 0, .int .u64 5] w (GaveInts 3 (fun H => H = [0, -1, -1]) w) :=
  (hops_any w B g r _ h net_three hT 0 5 (by decide)).mono fun e w' ⟨b, H, h1, h2, h3, h4, h5, h6⟩ => ⟨b, H, h1, h2, h3, h4, three_two h5, h6⟩
theorem may_one : mayB (List.replicate 3 0).length 0 1 = true := by decide
theorem may_two : mayB [2, 1, 0].length 2 1 = true := by decide
theorem near_one : ((nearV [2, 5, 2] 1 : Nat) : Int) = 5 := by decide
set_option maxRecDepth 100000 in
set_option maxHeartbeats 4000000 in
theorem alive_yes (w : World) (hT : Tab w) : Calls Tryd.prog 9 #[] w fun e w' => e = .returned (.bool true) ∧ Below w.heap.size w w' := by
  have hnew := new_any w 3 (by decide) (by decide)
  have ht0 := hT.2
  obtain ⟨g, hg⟩ : ∃ g, w.heap.size + 1 = g := ⟨_, rfl⟩
  rw [hg] at hnew
  have HT := Lib.hid hT
  clear hT
  have hsame := fun (W : World) (b1 b2 : Nat) (zs ys : List Int) (h1 : Row W (some ⟨b1, 0, none⟩) 3 zs) (h2 : Row W (some ⟨b2, 0, none⟩) 3 ys) => same_any W (some ⟨b1, 0, none⟩) 3 3 zs (some ⟨b2, 0, none⟩) 3 3 ys h1 h2
  go_enter Tryd.func9, Tryd.ntmps9
  go_wp2_with (first
    | (go_at_call 10; refine hnew.mono ?_; rintro e w1 ⟨rfl, L1, hb1, hs1⟩; have hset1 := set_any w1 _ _ _ _ L1 0 1 true; rw [three_one, may_one, if_pos rfl] at hset1; have HB1 := Lib.hid hb1; clear L1 hb1)
    | (go_at_call 12; (with_reducible refine hset1.mono ?_); rintro e w2 ⟨rfl, L2, hc2⟩; have hset2 := set_any w2 _ _ _ _ L2 2 1 true; rw [three_set, may_two, if_pos rfl] at hset2; have HC2 := Lib.hid hc2; clear L2 hc2)
    | (go_at_call 12; (with_reducible refine hset2.mono ?_); rintro e w3 ⟨rfl, L3, hc3⟩; have hb3 := Below.chg (Below.chg HB1.out HC2.out HB1.out.size (fun k e => by omega)) hc3 (Nat.le_trans HB1.out.size HC2.out.size) (fun k e => by omega); have hT3 := HT.out.below hb3 HT.out.2; have hh1 := hops_7 w3 _ _ _ L3 hT3; have HB3 := Lib.hid hb3; have HL3 := Lib.hid L3; clear hb3 L3 hT3)
    | (go_at_call 17; (with_reducible refine hh1.mono ?_); rintro e w4 ⟨q1, H1, rfl, hq1, hr1, hl1, hH1, hb4⟩; subst hH1; have L4 := HL3.out.below hb4; have hb4' := HB3.out.trans (hb4.mono HB3.out.size); have hT4 := HT.out.below hb4' HT.out.2; have hh2 := hops_5 w4 _ _ _ L4 hT4; have HB4 := Lib.hid hb4'; have HL4 := Lib.hid L4; have HR1 := Lib.hid (Row.of hr1 rfl (n := 3) (by decide)); clear hb4 hb4' L4 hT4 hr1 hl1)
    | (go_at_call 17; (with_reducible refine hh2.mono ?_); rintro e w5 ⟨q2, H2, rfl, hq2, hr2, hl2, hH2, hb5⟩; subst hH2; have hb5' := HB4.out.trans (hb5.mono HB4.out.size); have HL5 := Lib.hid (HL4.out.below hb5); have HB5 := Lib.hid hb5'; have HR1' := Lib.hid (HR1.out.below hb5); have HR2 := Lib.hid (Row.of hr2 rfl (n := 3) (by decide)); have hs1 := hsame (w5.alloc (.cells #[.int .i64 0, .int .i64 1, .int .i64 2] 3)) q1 w5.heap.size [0, 1, 2] [0, 1, 2] (HR1'.out.below (below_alloc _ _)) (Row.of (Holds.new w5 _ _) rfl (by decide)); clear hb5 hb5' hr2 hl2)
    | (go_at_call 21; (with_reducible refine hs1.mono ?_); rintro e w6 ⟨rfl, hb6⟩; have hb56 : Below w5.heap.size w5 w6 := (below_alloc _ _).trans (hb6.mono (by simp)); have HL6 := Lib.hid (HL5.out.below hb56); have hb6' := HB5.out.trans (hb56.mono HB5.out.size); have HB6 := Lib.hid hb6'; have hs2 := hsame (w6.alloc (.cells #[.int .i64 0, .int .i64 (-1), .int .i64 (-1)] 3)) q2 w6.heap.size [0, -1, -1] [0, -1, -1] ((HR2.out.below hb56).below (below_alloc _ _)) (Row.of (Holds.new w6 _ _) rfl (by decide)); clear hb6 hb56 hb6')
    | (go_at_call 21; (with_reducible refine hs2.mono ?_); rintro e w7 ⟨rfl, hb7⟩; have hb67 : Below w6.heap.size w6 w7 := (below_alloc _ _).trans (hb7.mono (by simp)); have hne := near_lk w7 _ _ _ _ (HL6.out.below hb67) 1; rw [near_one] at hne; have HB7 := Lib.hid (HB6.out.trans (hb67.mono HB6.out.size)); clear hb7 hb67)
    | (go_at_call 14; (with_reducible refine hne.mono ?_); rintro e w8 ⟨rfl, hw⟩; subst w8))
  go_ret
  exact ⟨rfl, HB7.out⟩
end Go.Proofs.YtfekblikiemogaaDoor
