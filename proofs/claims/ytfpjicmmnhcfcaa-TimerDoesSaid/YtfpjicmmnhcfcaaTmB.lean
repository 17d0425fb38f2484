/- Package slices: Insert, on rows of entries. -/
import Derived.Test.YtfpjicmmnhcfcaaTmA
namespace Go.Proofs.Ytfpjicmmnhcfcaa
open Go.RowKit

/-- Behind Insert: the row with the entry at its place, in the same block or a new one. -/
def Put (B : Nat) (A : Option Addr) (n c : Nat) (L : List (Int × Int)) (w : World) (e : Ending) (w' : World) : Prop :=
  ∃ A' c', e = .returned (.slice A' (n + 1) c') ∧ Ents w' B A' (n + 1) c' L ∧ w.grownBy w' (Value.slice A n c).ownBlock ∧ ∀ k, (Value.slice A' (n + 1) c').ownBlock = some k → (Value.slice A n c).ownBlock = some k ∨ w.heap.size ≤ k

theorem Ents.len {w : World} {B : Nat} {A : Option Addr} {n c : Nat} {L : List (Int × Int)} (h : Ents w B A n c L) : L.length = n := by have := h.1; rw [ents_len] at this; omega
theorem Ents.cap {w : World} {B : Nat} {A : Option Addr} {n c : Nat} {L : List (Int × Int)} (h : Ents w B A n c L) : n ≤ c ∧ c ≤ maxLen := by
  rcases own_open h with ⟨e, _, _⟩ | ⟨g, cap, cur, e, _, _, h1, h2, _⟩
  · simp only [Value.slice.injEq] at e
    obtain ⟨_, rfl, rfl⟩ := e
    simp [maxLen]
  · simp only [Value.slice.injEq] at e
    obtain ⟨_, _, rfl⟩ := e
    exact ⟨h1, h2⟩
theorem one_cells {w : World} {vb : Nat} {e : Int × Int} (hv : Holds w vb 50 #[.int .i64 e.1, .int .i64 e.2]) : ∀ j u, (ents [e])[j]? = some u → w.cell? ((⟨vb, 0, none⟩ : Addr).add j) = some u := by
  intro j u hu
  rw [Addr.add_lit, Nat.zero_add, hv.cell, ← hu]
  simp [ents]

set_option maxHeartbeats 4000000 in
set_option maxRecDepth 100000 in
theorem insert_end (w : World) (B : Nat) (A : Option Addr) (n c : Nat) (L : List (Int × Int)) (vb : Nat) (e : Int × Int) (h : Ents w B A n c L) (hn : n ≤ 1000) (hv : Holds w vb 50 #[.int .i64 e.1, .int .i64 e.2]) (hB : B ≤ w.heap.size) :
    Calls Try.prog 17 #[.slice A n c, .int .i64 n, .slice (some ⟨vb, 0, none⟩) 1 1] w (Put B A n c (L ++ [e]) w) := by
  obtain ⟨hnc, hcm⟩ := h.cap
  unfold maxLen at hcm
  obtain ⟨i0, hi0, hz0, hz1, hz2⟩ := info_parts ent_info
  obtain ⟨A', c', w1, hr, h2, h3, h4⟩ := run_append_rowK (P := Try.prog) w B 24 24 50 i0 _ 2 16 Try.underlying24 hi0 hz0 hz1 hz2 rfl (by decide) (.slice A n c) n (ents L) h ⟨vb, 0, none⟩ 1 1 (ents [e]) rfl (one_cells hv) (ents_one _) (by unfold maxLen; omega) (by omega) hB
  have hput : Put B A n c (L ++ [e]) w (.returned (.slice A' (n + 1) c')) w1 := ⟨A', c', rfl, by rw [← ents_append] at h2; exact h2, h3, h4⟩
  have HP := Lib.hid hput
  clear hput h2 h3 h4 h hv
  by_cases hcn : c = n
  · subst hcn
    go_enter Try.func17, Try.ntmps17
    go_wp2_with (at_builtin; refine Lib.wpList_append_run _ rfl _ _ _ _ rfl _ _ rfl rfl _ _ hr ?_)
    all_goals (go_ret; exact HP.out)
  go_enter Try.func17, Try.ntmps17
  go_wp2_with (at_builtin; refine Lib.wpList_append_run _ rfl _ _ _ _ rfl _ _ rfl rfl _ _ hr ?_)
  all_goals (go_ret; exact HP.out)

set_option maxHeartbeats 4000000 in
set_option maxRecDepth 100000 in
theorem insert_room (w : World) (B : Nat) (A : Option Addr) (n c : Nat) (L : List (Int × Int)) (i vb : Nat) (e : Int × Int) (h : Ents w B A n c L) (hi : i < n) (hr : n + 1 ≤ c) (hv : Holds w vb 50 #[.int .i64 e.1, .int .i64 e.2])
    (hne : (Value.slice A n c).ownBlock ≠ some vb) :
    Calls Try.prog 17 #[.slice A n c, .int .i64 i, .slice (some ⟨vb, 0, none⟩) 1 1] w (Put B A n c (L.take i ++ e :: L.drop i) w) := by
  obtain ⟨hnc, hcm⟩ := h.cap
  have hcm' := hcm
  unfold maxLen at hcm
  have hlen := h.len
  rcases own_open h with ⟨_, h0, _⟩ | ⟨g, cap, cur, ev, hB, hH, _, _, hcl, hct⟩
  · omega
  simp only [Value.slice.injEq, true_and] at ev
  obtain ⟨rfl, rfl⟩ := ev
  have hvg : vb ≠ g := fun h => hne (by simp [Value.ownBlock, h])
  have hnl : (ents (L.drop i)).length = (n - i) * 2 := by rw [ents_len, List.length_drop, hlen]
  have hH0 : Holds w.drew g 50 cur.toArray := hH
  have hv0 : Holds w.drew vb 50 #[.int .i64 e.1, .int .i64 e.2] := hv
  have hm1 : Nat.min (n + 1 - i) (n - i) = n - i := by show min _ _ = _; omega
  have hm2 : Nat.min 1 (n + 1 - i) = 1 := by show min _ _ = _; omega
  have hov := overlaps_apart w g vb ((i + 1) * 2) 1 1 (n - i) (c - (i + 1)) _ _ hH hv hvg (by simp; omega)
  obtain ⟨W1, hW1⟩ : ∃ W1, W1 = w.drew.setRow g (splice cur ((i + 1) * 2) (ents (L.drop i))).toArray := ⟨_, rfl⟩
  have hH1 : Holds W1 g 50 (splice cur ((i + 1) * 2) (ents (L.drop i))).toArray := by rw [hW1]; exact hH0.row _
  have hv1 : Holds W1 vb 50 #[.int .i64 e.1, .int .i64 e.2] := by rw [hW1]; exact (setRow_other w.drew g vb _ hvg).trans hv0
  have hg1 : w.grownBy W1 (some g) := by rw [hW1]; exact ⟨rfl, rfl, rfl, by simp, fun k _ hk => setRow_other w.drew g k _ (fun e => hk (by rw [e]))⟩
  have hc1 : (Builtin.copy_ #[24, 24] 3 #[.slice (some ⟨g, (i + 1) * 2, none⟩) (n - i) (c - (i + 1)), .slice (some ⟨g, i * 2, none⟩) (n + 1 - i) (c - i)]).run Try.prog w.drew = .ok (goInt (Nat.min (n + 1 - i) (n - i))) W1 := by
    rw [run_copyK (P := Try.prog) w.drew 24 24 3 50 2 g _ _ _ _ _ _ cur _ (ents (L.drop i)) Try.underlying24 ent_size hH0 (by rw [hnl, hm1]) ?_ (by omega) (ents_one _), hW1]
    intro k u hu
    have hk : k < (n - i) * 2 := by
      have := (List.getElem?_eq_some_iff.1 hu).1
      omega
    rw [Addr.add_lit, hH0.cell, ← hu, ← ents_drop, ← hct, List.getElem?_drop, List.getElem?_take, if_pos (by omega)]
    simp
  have hsl : (splice cur ((i + 1) * 2) (ents (L.drop i))).length = c * 2 := by rw [length_splice _ _ _ (by omega), hcl]
  obtain ⟨W2, hW2⟩ : ∃ W2, W2 = W1.setRow g (splice (splice cur ((i + 1) * 2) (ents (L.drop i))) (i * 2) (ents [e])).toArray := ⟨_, rfl⟩
  have hH2 : Holds W2 g 50 (splice (splice cur ((i + 1) * 2) (ents (L.drop i))) (i * 2) (ents [e])).toArray := by rw [hW2]; exact hH1.row _
  have hc2 : (Builtin.copy_ #[24, 24] 3 #[.slice (some ⟨g, i * 2, none⟩) (n + 1 - i) (c - i), .slice (some ⟨vb, 0, none⟩) 1 1]).run Try.prog W1 = .ok (goInt (Nat.min 1 (n + 1 - i))) W2 := by
    rw [run_copyK (P := Try.prog) W1 24 24 3 50 2 g _ _ _ _ _ _ _ _ (ents [e]) Try.underlying24 ent_size hH1 (by rw [hm2]; rfl) (one_cells hv1) (by rw [ents_len]; simp; omega) (ents_one _), hW2]
  have hput : Put B (some ⟨g, 0, none⟩) n c (L.take i ++ e :: L.drop i) w (.returned (.slice (some ⟨g, 0, none⟩) (n + 1) c)) W2 := by
    refine ⟨_, c, rfl, own_mk hH2 hB hr hcm' (by rw [length_splice _ _ _ (by rw [ents_len]; simp; omega), hsl]) ?_, by rw [hW2]; exact grown_trans hg1 (grown_row W1 g _), fun q hq => .inl hq⟩
    rw [splice_insert _ _ _ _ _ _ (by rw [ents_len]; simp; omega) (by omega) (by omega)]
    have e1 : cur.take (i * 2) = ents (L.take i) := by rw [← ents_take, ← hct, List.take_take, Nat.min_eq_left (by omega)]
    rw [e1, ← ents_append, ← ents_append]
    rfl
  have HP := Lib.hid hput
  clear hput hm1 hm2 hW2 hH2 hW1 hH1 hv1 hg1 hH0 hv0 h hH hv
  have ew := IntWalk.i64_in ((i : Int) + 1) (by omega)
  have hb0 : (0 : Int) ≤ (i : Int) + 1 := by omega
  have hb1 : (i : Int) ≤ (n : Int) + 1 := by omega
  have htn : ((i : Int) + 1).toNat = i + 1 := by omega
  have hin : i ≤ n := by omega
  have hci : ¬ c = i := by omega
  have hci1 : ¬ c = i + 1 := by omega
  have hz2 : ¬ ((i : Int) = (n : Int)) := by omega
  have hi1 : i ≤ n + 1 := by omega
  go_enter Try.func17, Try.ntmps17
  go_wp2_with (simp only [hov])
  go_region_law (refine step_copy_known rfl (.tmp 73) (.tmp 76) 24 24 rfl (.slice (some ⟨g, (i + 1) * 2, none⟩) (n - i) (c - (i + 1))) (.slice (some ⟨g, i * 2, none⟩) (n + 1 - i) (c - i)) (by simp [Act.eval, Act.put]) (by simp [Act.eval, Act.put]) hc1 ?_)
  go_wp2_with (at_builtin; refine wpList_copy_known _ rfl _ _ 24 24 rfl _ _ rfl rfl hc2 ?_)
  go_ret
  exact HP.out

set_option maxHeartbeats 4000000 in
set_option maxRecDepth 100000 in
theorem insert_grow (w : World) (B : Nat) (A : Option Addr) (n c : Nat) (L : List (Int × Int)) (i vb : Nat) (e : Int × Int) (h : Ents w B A n c L) (hi : i < n) (hn : n ≤ 1000) (hr : c < n + 1) (hv : Holds w vb 50 #[.int .i64 e.1, .int .i64 e.2])
    (hB : B ≤ w.heap.size) :
    Calls Try.prog 17 #[.slice A n c, .int .i64 i, .slice (some ⟨vb, 0, none⟩) 1 1] w (Put B A n c (L.take i ++ e :: L.drop i) w) := by
  obtain ⟨hnc, hcm⟩ := h.cap
  have hcm' := hcm
  unfold maxLen at hcm
  have hlen := h.len
  rcases own_open h with ⟨_, h0, _⟩ | ⟨g, cap, cur, ev, hBg, hH, _, _, hcl, hct⟩
  · omega
  simp only [Value.slice.injEq, true_and] at ev
  obtain ⟨rfl, rfl⟩ := ev
  obtain ⟨i0, hi0, hz0, hz1, hz2⟩ := info_parts ent_info
  have hgw : g < w.heap.size := hH.lt
  have hvw : vb < w.heap.size := hv.lt
  have hcell : ∀ k, k < n * 2 → w.cell? ⟨g, k, none⟩ = (ents L)[k]? := fun k hk => by
    rw [hH.cell, ← hct, List.getElem?_take, if_pos hk]
    simp
  have htl : (ents (L.take i)).length = i * 2 := by rw [ents_len, List.length_take, hlen, Nat.min_eq_left (by omega)]
  have hnl : (ents (L.drop i)).length = (n - i) * 2 := by rw [ents_len, List.length_drop, hlen]
  have hold : (Builtin.firstCells i0.size i (.slice (some ⟨g, 0, none⟩) i c)).run Try.prog w.drew = .ok (ents (L.take i)).toArray w.drew := by
    rw [hz1]
    refine run_firstCells_some w.drew 2 i ⟨g, 0, none⟩ i c (ents (L.take i)) htl (fun j v hj => ?_)
    have hk : j < i * 2 := by
      have := (List.getElem?_eq_some_iff.1 hj).1
      omega
    rw [Addr.add_lit, Nat.zero_add]
    show w.cell? _ = _
    rw [hcell j (by omega), ← hj, ← ents_take, List.getElem?_take, if_pos hk]
  have hrz := Lib.run_append_grow_zeros w 24 3 24 50 i0 _ .i64 .i64 Try.underlying24 Try.underlying3 hi0 hz0 (some ⟨g, 0, none⟩) i c (ents (L.take i)) hold (n + 1 - i) (by omega) (by omega) (by omega) (by omega) (by rw [hz2]; omega) (by rw [hz2]; exact growslice_fits (by omega) (by omega))
  rw [show i + (n + 1 - i) = n + 1 by omega] at hrz
  rw [show ((n + 1 - i : Nat) : Int) = (n : Int) + 1 - (i : Int) by omega] at hrz
  obtain ⟨G, hG⟩ : ∃ G, G = grownCap w (n + 1) c 50 := ⟨_, rfl⟩
  obtain ⟨ROW, hROW⟩ : ∃ ROW : List Value, ROW.toArray = (ents (L.take i)).toArray ++ Builtin.zeroCells (Value.agg #[Value.int .i64 0, Value.int .i64 0]).cells (n + 1 - i) ++ Builtin.zeroCells (Value.agg #[Value.int .i64 0, Value.int .i64 0]).cells (G - (n + 1)) := ⟨((ents (L.take i)).toArray ++ Builtin.zeroCells (Value.agg #[Value.int .i64 0, Value.int .i64 0]).cells (n + 1 - i) ++ Builtin.zeroCells (Value.agg #[Value.int .i64 0, Value.int .i64 0]).cells (G - (n + 1))).toList, by simp⟩
  have hGn : n + 1 ≤ G := by rw [hG]; exact grownCap_ge w _ _ _
  have hG63 : G ≤ maxLen := by rw [hG]; exact grownCap_le_maxLen w _ _ _ (by unfold maxLen; omega)
  have hRl : ROW.length = G * 2 := by
    have := congrArg Array.size hROW
    rw [Array.size_append, Array.size_append, zeros_ent, zeros_ent, List.size_toArray, List.size_toArray, htl] at this
    omega
  have hRt : ROW.take (i * 2) = ents (L.take i) := by
    have := congrArg Array.toList hROW
    simp only [Array.toList_append] at this
    rw [this, List.append_assoc, List.take_append_of_le_length (by omega), List.take_of_length_le (by omega)]
  rw [← hG, ← hROW] at hrz
  obtain ⟨N, hN⟩ : ∃ N, N = w.heap.size := ⟨_, rfl⟩
  obtain ⟨W1, hW1⟩ : ∃ W1, W1 = w.drew.alloc (.cells ROW.toArray 50) := ⟨_, rfl⟩
  rw [← hW1, ← hN] at hrz
  have hH1 : Holds W1 N 50 ROW.toArray := by rw [hW1, hN]; exact Holds.new w.drew _ _
  have hg1 : w.grownBy W1 none := by rw [hW1]; exact ⟨rfl, rfl, rfl, by simp, fun k hk _ => Below.heap_alloc w.drew _ k hk⟩
  have hv1 : Holds W1 vb 50 #[.int .i64 e.1, .int .i64 e.2] := hv.grown hg1 (by simp)
  have hm1 : Nat.min 1 (n + 1 - i) = 1 := by show min _ _ = _; omega
  have hm2 : Nat.min (n - i) (n - i) = n - i := Nat.min_self _
  obtain ⟨W2, hW2⟩ : ∃ W2, W2 = W1.setRow N (splice ROW (i * 2) (ents [e])).toArray := ⟨_, rfl⟩
  have hH2 : Holds W2 N 50 (splice ROW (i * 2) (ents [e])).toArray := by rw [hW2]; exact hH1.row _
  have hsl : (splice ROW (i * 2) (ents [e])).length = G * 2 := by rw [length_splice _ _ _ (by rw [ents_len]; simp; omega), hRl]
  have hg2 : W1.grownBy W2 (some N) := by rw [hW2]; exact grown_row W1 N _
  have hc1 : (Builtin.copy_ #[24, 24] 3 #[.slice (some ⟨N, i * 2, none⟩) (n + 1 - i) (G - i), .slice (some ⟨vb, 0, none⟩) 1 1]).run Try.prog W1 = .ok (goInt (Nat.min 1 (n + 1 - i))) W2 := by
    rw [run_copyK (P := Try.prog) W1 24 24 3 50 2 N _ _ _ _ _ _ _ _ (ents [e]) Try.underlying24 ent_size hH1 (by rw [hm1]; rfl) (one_cells hv1) (by rw [ents_len]; simp; omega) (ents_one _), hW2]
  have hH2' : Holds W2.drew N 50 (splice ROW (i * 2) (ents [e])).toArray := hH2
  obtain ⟨W3, hW3⟩ : ∃ W3, W3 = W2.drew.setRow N (splice (splice ROW (i * 2) (ents [e])) ((i + 1) * 2) (ents (L.drop i))).toArray := ⟨_, rfl⟩
  have hH3 : Holds W3 N 50 (splice (splice ROW (i * 2) (ents [e])) ((i + 1) * 2) (ents (L.drop i))).toArray := by rw [hW3]; exact hH2'.row _
  have hg3 : W2.grownBy W3 (some N) := by rw [hW3]; exact ⟨rfl, rfl, rfl, by simp, fun k _ hk => setRow_other W2.drew N k _ (fun e => hk (by rw [e]))⟩
  have hc2 : (Builtin.copy_ #[24, 24] 3 #[.slice (some ⟨N, (i + 1) * 2, none⟩) (n - i) (G - (i + 1)), .slice (some ⟨g, i * 2, none⟩) (n - i) (c - i)]).run Try.prog W2.drew = .ok (goInt (Nat.min (n - i) (n - i))) W3 := by
    rw [run_copyK (P := Try.prog) W2.drew 24 24 3 50 2 N _ _ _ _ _ _ _ _ (ents (L.drop i)) Try.underlying24 ent_size hH2' (by rw [hnl, hm2]) ?_ (by omega) (ents_one _), hW3]
    intro k u hu
    have hk : k < (n - i) * 2 := by
      have := (List.getElem?_eq_some_iff.1 hu).1
      omega
    rw [Addr.add_lit]
    show W2.cell? _ = _
    have hlt1 : g < W1.heap.size := Nat.lt_of_lt_of_le hgw hg1.size
    rw [World.cell?_of_block (w := W1) (hg2.block g hlt1 (by simp; omega)), World.cell?_of_block (w := w) (hg1.block g hgw (by simp)), hcell _ (by omega), ← hu, ← ents_drop, List.getElem?_drop]
  have hput : Put B (some ⟨g, 0, none⟩) n c (L.take i ++ e :: L.drop i) w (.returned (.slice (some ⟨N, 0, none⟩) (n + 1) G)) W3 := by
    refine ⟨_, G, rfl, own_mk hH3 (by omega) hGn hG63 (by rw [length_splice _ _ _ (by omega), hsl]) ?_, ?_, fun q hq => .inr (by simp [Value.ownBlock] at hq; omega)⟩
    · rw [splice_fill _ _ _ _ _ _ (by rw [ents_len]; simp; omega) (by omega) (by omega), hRt, ← ents_append, ← ents_append]
      rfl
    · have hb : w.grownBy W3 (some N) := grown_trans (grown_trans ⟨hg1.os, hg1.tape, hg1.output, hg1.size, fun k hk _ => hg1.block k hk (by simp)⟩ hg2) hg3
      exact ⟨hb.os, hb.tape, hb.output, hb.size, fun k hk _ => hb.block k hk (by simp; omega)⟩
  have HP := Lib.hid hput
  clear hput hN hg3 hH3 hW3 hH2' hg2 hH2 hW2 hm1 hm2 hv1 hg1 hH1 hW1 hRt hRl hG hROW hold hcell h hH hv hsl hcl
  unfold maxLen at hG63
  have ew := IntWalk.i64_in ((i : Int) + 1) (by omega)
  have hb0 : (0 : Int) ≤ (i : Int) + 1 := by omega
  have hb1 : (i : Int) ≤ (n : Int) + 1 := by omega
  have htn : ((i : Int) + 1).toNat = i + 1 := by omega
  have hin : i ≤ n := by omega
  have hci : ¬ c = i := by omega
  have hGi : ¬ G = i := by omega
  have hGi1 : ¬ G = i + 1 := by omega
  have hz3 : ¬ ((i : Int) = (n : Int)) := by omega
  have hi1 : i ≤ n + 1 := by omega
  have hbi : (i : Int) ≤ (n : Int) := by omega
  go_enter Try.func17, Try.ntmps17
  go_wp2_with (first
    | (at_builtin; refine Lib.wpList_append_run _ rfl _ _ _ _ rfl _ _ rfl rfl _ _ hrz ?_)
    | (at_builtin; refine wpList_copy_known _ rfl _ _ 24 24 rfl _ _ rfl rfl hc1 ?_))
  go_region_law (refine step_copy_known rfl (.tmp 50) (.tmp 53) 24 24 rfl (.slice (some ⟨N, (i + 1) * 2, none⟩) (n - i) (G - (i + 1))) (.slice (some ⟨g, i * 2, none⟩) (n - i) (c - i)) (by simp [Act.eval, Act.put]) (by simp [Act.eval, Act.put]) hc2 ?_)
  go_wp2
  go_ret
  exact HP.out

/-- Insert, at any place of a row of the call's own. -/
theorem insert_any (w : World) (B : Nat) (A : Option Addr) (n c : Nat) (L : List (Int × Int)) (i vb : Nat) (e : Int × Int) (h : Ents w B A n c L) (hi : i ≤ n) (hn : n ≤ 1000) (hv : Holds w vb 50 #[.int .i64 e.1, .int .i64 e.2])
    (hne : (Value.slice A n c).ownBlock ≠ some vb) (hB : B ≤ w.heap.size) :
    Calls Try.prog 17 #[.slice A n c, .int .i64 i, .slice (some ⟨vb, 0, none⟩) 1 1] w (Put B A n c (L.take i ++ e :: L.drop i) w) := by
  have hlen := h.len
  by_cases he : i = n
  · subst he
    rw [List.take_of_length_le (by omega), List.drop_eq_nil_of_le (by omega)]
    exact insert_end w B A i c L vb e h hn hv hB
  · by_cases hr : n + 1 ≤ c
    · exact insert_room w B A n c L i vb e h (by omega) hr hv hne
    · exact insert_grow w B A n c L i vb e h (by omega) hn (by omega) hv hB
end Go.Proofs.Ytfpjicmmnhcfcaa
