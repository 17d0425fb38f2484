/- Package timer: rows of entries (when, and what), and package slices' calls on them. -/
import Derived.Test.YtfpjicmmnhcfcaaRowN
import Derived.Test.YtfpjicmmnhcfcaaProg
import Derived.Outline
import Derived.LoopTactic
import Derived.Deep.RegionLaw
import Derived.Lib.Overlaps
namespace Go.Proofs.Ytfpjicmmnhcfcaa
open Go.RowKit

/-- The cells of entries, one behind the other. -/
def ents (L : List (Int × Int)) : List Value := L.flatMap fun e => [.int .i64 e.1, .int .i64 e.2]
theorem ents_nil : ents [] = [] := rfl
theorem ents_cons (e : Int × Int) (L : List (Int × Int)) : ents (e :: L) = .int .i64 e.1 :: .int .i64 e.2 :: ents L := rfl
theorem ents_append (L M : List (Int × Int)) : ents (L ++ M) = ents L ++ ents M := by simp [ents]
theorem ents_len : ∀ L : List (Int × Int), (ents L).length = L.length * 2
  | [] => rfl
  | e :: L => by rw [ents_cons]; simp [ents_len L]; omega
theorem ents_take : ∀ (L : List (Int × Int)) (i : Nat), (ents L).take (i * 2) = ents (L.take i)
  | [], _ => by simp [ents_nil]
  | _ :: _, 0 => by simp [ents_nil]
  | e :: L, i + 1 => by rw [List.take_succ_cons, ents_cons, ents_cons, ← ents_take L i, show (i + 1) * 2 = i * 2 + 1 + 1 by omega, List.take_succ_cons, List.take_succ_cons]
theorem ents_drop : ∀ (L : List (Int × Int)) (i : Nat), (ents L).drop (i * 2) = ents (L.drop i)
  | [], _ => by simp [ents_nil]
  | _ :: _, 0 => by simp
  | e :: L, i + 1 => by rw [List.drop_succ_cons, ents_cons, ← ents_drop L i, show (i + 1) * 2 = i * 2 + 1 + 1 by omega, List.drop_succ_cons, List.drop_succ_cons]
theorem ents_get : ∀ (L : List (Int × Int)) (i : Nat), i < L.length → (ents L)[i * 2]? = some (.int .i64 (L.getD i (0, 0)).1) ∧ (ents L)[i * 2 + 1]? = some (.int .i64 (L.getD i (0, 0)).2)
  | e :: L, 0, _ => ⟨rfl, rfl⟩
  | e :: L, i + 1, h => by
    have := ents_get L i (by simpa using h)
    rw [ents_cons, show (i + 1) * 2 = i * 2 + 1 + 1 by omega]
    simpa using this
theorem ents_one (L : List (Int × Int)) : ∀ v ∈ ents L, v.oneCell' = true := by
  intro v hv
  simp [ents] at hv
  obtain ⟨a, b, _, rfl | rfl⟩ := hv <;> rfl

theorem ent_info : (Try.prog.info? 50).map (fun i => (i.zero, i.size, i.bytes)) = some (some (.agg #[.int .i64 0, .int .i64 0]), 2, 16) := by kernel_rfl
theorem ent_size : (Try.prog.info? 50).map (·.size) = some 2 := by kernel_rfl
theorem ent_zero (w : World) : (zeroValue 50).run Try.prog w = .ok (.agg #[.int .i64 0, .int .i64 0]) w := by kernel_rfl

/-- Row of entries in a slice. -/
abbrev Ents (w : World) (B : Nat) (A : Option Addr) (n c : Nat) (L : List (Int × Int)) : Prop := w.ownsRow B 50 2 (.slice A n c) n (ents L)
theorem zeros_ent (n : Nat) : (Builtin.zeroCells (Value.agg #[Value.int .i64 0, Value.int .i64 0]).cells n).size = n * 2 := by rw [size_zeroCells]; rfl

set_option maxHeartbeats 4000000 in
theorem delete_any (w : World) (B : Nat) (A : Option Addr) (n c : Nat) (L : List (Int × Int)) (i j : Nat) (h : Ents w B A n c L) (hij : i ≤ j) (hj : j ≤ n) :
    Calls Try.prog 22 #[.slice A n c, .int .i64 i, .int .i64 j] w fun e w' =>
      e = .returned (.slice A (n - (j - i)) c) ∧ Ents w' B A (n - (j - i)) c (L.take i ++ L.drop j) ∧ w.grownBy w' (Value.slice A n c).ownBlock := by
  have hlen : L.length = n := by have := h.1; rw [ents_len] at this; omega
  have hcn : n ≤ c ∧ c ≤ maxLen := by
    rcases own_open h with ⟨e, _, _⟩ | ⟨g, cap, cur, e, _, _, h1, h2, _⟩
    · simp only [Value.slice.injEq] at e
      obtain ⟨_, rfl, rfl⟩ := e
      simp [maxLen]
    · simp only [Value.slice.injEq] at e
      obtain ⟨_, _, rfl⟩ := e
      exact ⟨h1, h2⟩
  obtain ⟨hnc, hcm⟩ := hcn
  unfold maxLen at hcm
  by_cases heq : i = j
  · subst heq
    have h0 : Calls Try.prog 22 #[.slice A n c, .int .i64 i, .int .i64 i] w fun e w' => e = .returned (.slice A n c) ∧ w = w' := by
      clear h
      go_enter Try.func22, Try.ntmps22
      go_wp2
      all_goals (go_ret; exact ⟨rfl, rfl⟩)
    refine h0.mono ?_
    rintro e w' ⟨rfl, rfl⟩
    rw [Nat.sub_self, Nat.sub_zero, List.take_append_drop]
    exact ⟨rfl, h, ⟨rfl, rfl, rfl, Nat.le_refl _, fun _ _ _ => rfl⟩⟩
  · rcases own_open h with ⟨_, h0, _⟩ | ⟨g, cap, cur, e, hB, hH, _, _, hcl, hct⟩
    · omega
    simp only [Value.slice.injEq, true_and] at e
    obtain ⟨rfl, rfl⟩ := e
    have hnl : (ents (L.drop j)).length = (n - j) * 2 := by rw [ents_len, List.length_drop, hlen]
    have hH0 : Holds w.drew g 50 cur.toArray := hH
    obtain ⟨W1, hW1⟩ : ∃ W1, W1 = w.drew.setRow g (splice cur (i * 2) (ents (L.drop j))).toArray := ⟨_, rfl⟩
    have hH1 : Holds W1 g 50 (splice cur (i * 2) (ents (L.drop j))).toArray := by rw [hW1]; exact hH0.row _
    have hg1 : w.grownBy W1 (some g) := by rw [hW1]; exact ⟨rfl, rfl, rfl, by simp, fun k _ hk => setRow_other w.drew g k _ (fun e => hk (by rw [e]))⟩
    obtain ⟨i0, hi0, hz0, hz1, hz2⟩ := info_parts ent_info
    have hap : ∀ ty A', (0 < n - j → A' = (⟨g, j * 2, none⟩ : Addr)) → (Builtin.append_ #[24, 24] ty #[.slice (some ⟨g, 0, none⟩) i c, .slice (some A') (n - j) (c - j)]).run Try.prog w.drew = .ok (.slice (some ⟨g, 0, none⟩) (i + (n - j)) c) W1 := fun ty A' hA => by
      rw [run_append_room (P := Try.prog) w.drew 24 ty 50 i0 Try.underlying24 hi0 g i c cur.toArray hH0 A' (n - j) (c - j) (ents (L.drop j)) (by rw [hnl, hz1]) ?_ (ents_one _) (by omega) (by simp [hnl, hz1, hcl]; omega), hW1]
      · simp [splice, hz1]
      · intro k u hu
        have hk : k < (n - j) * 2 := by
          have := (List.getElem?_eq_some_iff.1 hu).1
          omega
        rw [hA (by omega), Addr.add_lit, hH0.cell, ← hu, ← ents_drop, ← hct, List.getElem?_drop, List.getElem?_take, if_pos (by omega)]
        simp
    obtain ⟨W2, hW2⟩ : ∃ W2, W2 = W1.setRow g (splice (splice cur (i * 2) (ents (L.drop j))) ((i + (n - j)) * 2) (Builtin.zeroCells #[Value.int .i64 0, Value.int .i64 0] (n - (i + (n - j)))).toList).toArray := ⟨_, rfl⟩
    have hsl : (splice cur (i * 2) (ents (L.drop j))).length = c * 2 := by rw [length_splice _ _ _ (by omega), hcl]
    have hzl : (Builtin.zeroCells #[Value.int .i64 0, Value.int .i64 0] (n - (i + (n - j)))).toList.length = (n - (i + (n - j))) * 2 := by
      rw [Array.length_toList, size_zeroCells]; rfl
    have hcr : ∀ ty, (Builtin.clear_ #[24] ty #[.slice (some ⟨g, (i + (n - j)) * 2, none⟩) (n - (i + (n - j))) (c - (i + (n - j)))]).run Try.prog W1 = .ok (.tuple #[]) W2 := fun ty => by
      rw [run_clearK (P := Try.prog) W1 24 50 ty (.agg #[.int .i64 0, .int .i64 0]) Try.underlying24 ent_zero g _ _ _ (by omega) _ _ hH1 (by rw [zeros_ent, hsl]; omega) (fun v hv => by
        rw [zeros_two (.int .i64 0) _ v hv]; rfl), hW2]
      rfl
    have hH2 : Holds W2 g 50 (splice (splice cur (i * 2) (ents (L.drop j))) ((i + (n - j)) * 2) (Builtin.zeroCells #[Value.int .i64 0, Value.int .i64 0] (n - (i + (n - j)))).toList).toArray := by rw [hW2]; exact hH1.row _
    have hg2 : w.grownBy W2 (some g) := by rw [hW2]; exact grown_trans hg1 (grown_row W1 g _)
    have hrow : Ents W2 B (some ⟨g, 0, none⟩) (n - (j - i)) c (L.take i ++ L.drop j) := by
      refine own_mk hH2 hB (by omega) (by unfold maxLen; omega) (by rw [length_splice _ _ _ (by omega), hsl]) ?_
      rw [take_splice_le _ _ _ _ (by omega) (by omega), take_splice_end _ _ _ _ (by omega) (by omega), ents_append, ← ents_take, ← hct, List.take_take, Nat.min_eq_left (by omega)]
    obtain ⟨A', hA, hA2⟩ : ∃ A' : Addr, (if c = j then some (⟨g, 0, none⟩ : Addr) else some ⟨g, j * 2, none⟩) = some A' ∧ (0 < n - j → A' = (⟨g, j * 2, none⟩ : Addr)) := by
      by_cases hcj : c = j
      · exact ⟨⟨g, 0, none⟩, by simp [hcj], fun h => by omega⟩
      · exact ⟨⟨g, j * 2, none⟩, by simp [hcj], fun _ => rfl⟩
    have HA := Lib.hid (hap 24 A' hA2)
    have HR := Lib.hid hrow
    have HG := Lib.hid hg2
    clear hap hA2 hrow hg2 hH2 hW2 hH1 hg1 hW1 hH0 hH h
    have hic : i ≤ c := by omega
    have hjc : j ≤ c := by omega
    have ew := IntWalk.i64_in ((i : Int) + ((n : Int) - (j : Int))) (by omega)
    go_enter Try.func22, Try.ntmps22
    go_wp2_with fail
    go_region_law (refine step_append_known rfl (.tmp 22) (.tmp 25) 24 24 rfl (.slice (some ⟨g, 0, none⟩) i c) (.slice (some A') (n - j) (c - j)) (by simp [Act.eval, Act.put]) (by simp [Act.eval, Act.put]) HA.out ?_)
    go_wp2
    go_ret
    exact ⟨by rw [show n - (j - i) = i + (n - j) by omega]; rfl, HR.out, HG.out⟩

/-- Two slices in two blocks don't overlap. -/
theorem overlaps_apart (w : World) (g vb off la ca lb cb : Nat) (cur vs : Array Value) (hg : Holds w g 50 cur) (hv : Holds w vb 50 vs) (hne : vb ≠ g) (hc : 0 < cur.size) :
    (callFunc 25 #[.slice (some ⟨vb, 0, none⟩) la ca, .slice (some ⟨g, off, none⟩) lb cb]).run Try.prog w = .ok (.value (.bool false)) w := by
  have hg' : w.heap[g]? = _ := hg
  have hv' : w.heap[vb]? = _ := hv
  rw [run_callFunc_extern Try.func25 (by kernel_rfl) (by kernel_rfl) (by kernel_rfl) (e := Extern.SlicesOverlaps.overlaps #[24, 24] #[4]) (by kernel_rfl),
    Lib.run_overlaps_apart w 24 4 50 Try.underlying24 2 (fun w => by kernel_rfl) ⟨vb, 0, none⟩ ⟨g, off, none⟩ la ca lb cb hne 50 50 vs.size cur.size
      (by simp [World.shape?, hv']) (by simp [World.shape?, hg']) (by omega) (hv.soft 0) (hv.soft _)]
  rfl
end Go.Proofs.Ytfpjicmmnhcfcaa
