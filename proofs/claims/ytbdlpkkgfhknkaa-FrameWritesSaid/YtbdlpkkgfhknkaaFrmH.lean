/- The document's Good and Bytes. -/
import Derived.Test.YtbdlpkkgfhknkaaFrmGF
import Derived.LoopTactic
namespace Go.Proofs.Ytbdlpkkgfhknkaa
open Go.RowKit
set_option linter.unusedSimpArgs false

theorem rows_length (l : List (Int × Int)) : (rowsOf l).length = l.length * 3 := by
  induction l with
  | nil => rfl
  | cons x l ih =>
    show ([Value.int .i64 (sizeF x.1 : Int), .int .i64 x.2, .int .i64 (mostF x.1)] ++ rowsOf l).length = _
    rw [List.length_append, ih, List.length_cons]
    simp only [List.length_cons, List.length_nil]
    omega
theorem rows_at (l : List (Int × Int)) : ∀ k, (h : k < l.length) → (rowsOf l)[k * 3]? = some (.int .i64 (sizeF l[k].1 : Int)) ∧ (rowsOf l)[k * 3 + 1]? = some (.int .i64 l[k].2) ∧ (rowsOf l)[k * 3 + 2]? = some (.int .i64 (mostF l[k].1)) := by
  induction l with
  | nil => intro k h; simp at h
  | cons x l ih =>
    intro k h
    have e : rowsOf (x :: l) = [.int .i64 (sizeF x.1 : Int), .int .i64 x.2, .int .i64 (mostF x.1)] ++ rowsOf l := rfl
    rcases k with _ | k
    · rw [e]
      simp
    · have := ih k (by simpa using h)
      rw [e, show (k + 1) * 3 = k * 3 + 3 by omega, show k * 3 + 3 + 1 = k * 3 + 1 + 3 by omega, show k * 3 + 3 + 2 = k * 3 + 2 + 3 by omega]
      simpa using this
/-- While a row of fields is gone over. -/
structure Going (w : World) (g : Nat) (l : List (Int × Int)) (wr : World) : Prop where
  below : Below w.heap.size w wr
  row : Holds wr g 76 (rowsOf l).toArray
section
variable {w wr : World} {g : Nat} {l : List (Int × Int)}
theorem Going.cells (h : Going w g l wr) {k : Nat} (hk : k < l.length) : wr.cell? ⟨g, k * 3, none⟩ = some (.int .i64 (sizeF l[k].1 : Int)) ∧ wr.cell? ⟨g, k * 3 + 1, none⟩ = some (.int .i64 l[k].2) ∧ wr.cell? ⟨g, k * 3 + 2, none⟩ = some (.int .i64 (mostF l[k].1)) := by
  obtain ⟨h1, h2, h3⟩ := rows_at l k hk
  rw [h.row.cell, h.row.cell, h.row.cell]
  simp only [List.getElem?_toArray]
  exact ⟨h1, h2, h3⟩
theorem Going.alloc (h : Going w g l wr) (o : Obj) : Going w g l (wr.alloc o) := ⟨h.below.alloc h.below.size o, h.row.alloc o⟩
end
theorem no_all {l : List (Int × Int)} {k : Nat} {h : k < l.length} {X : Int × Int} (hX : l[k] = X) (hk : k < l.length) (hn : okF X = false) : l.all okF = false := by
  rcases hall : l.all okF with _ | _
  · rfl
  · have := List.all_eq_true.1 hall l[k] (List.getElem_mem hk)
    rw [hX, hn] at this
    cases this
set_option maxHeartbeats 2000000 in
theorem rgood_fr (p : Pl) (f : Fr) (w : World) (hp : p.wf) (h : p.fr = some f) : Calls Try.prog 13 #[p.val] w (Told (.bool f.good) w) := by
  have hfl := fun W => fields_any p f W hp h
  have hwf := hp.fr h
  unfold Fr.good
  have hlen : 0 < f.fields.length := by cases f <;> simp [Fr.fields]
  have hlen8 : f.fields.length ≤ 8 := by cases f <;> simp [Fr.fields]
  have hfits : ∀ x ∈ f.fields, Fits x.2 := fun x hx => asks_fits hwf x (List.mem_cons_of_mem _ hx)
  clear h hp hwf
  obtain ⟨l, hl⟩ : ∃ l, f.fields = l := ⟨_, rfl⟩
  rw [hl] at hlen hlen8 hfits ⊢
  simp only [hl] at hfl
  clear hl
  obtain ⟨n, hn⟩ : ∃ n, l.length = n := ⟨_, rfl⟩
  rw [hn] at hlen hlen8
  have HN := Lib.hid hn
  have HF := Lib.hid hfits
  clear hn hfits
  obtain ⟨a0, a1, a2, a3, a4, a5, a6, a7, a8, a9, a10, a11, a12, a13⟩ := p
  simp only [Pl.val] at hfl ⊢
  have hfl' : ∀ W : World, Below w.heap.size w W → Calls Try.prog 28 #[.agg #[.int .i64 a0, .int .i64 a1, .int .i64 a2, .int .i64 a3, .int .u16 a4, .int .u16 a5, .int .i64 a6, .int .i64 a7, .int .i64 a8, .int .i64 a9, .int .i64 a10, .int .i64 a11, .int .i64 a12, .int .i64 a13]] W fun e w' =>
      ∃ g, e = .returned (.slice (some ⟨g, 0, none⟩) n n) ∧ Going w g l w' := fun W hW => (hfl W).mono fun e w' ⟨g, he, hh, hg, hb⟩ => ⟨g, by rw [he, HN.out], hW.trans (hb.mono hW.size), hh⟩
  clear hfl
  go_enter Try.func13, Try.ntmps13
  go_wp2_with (go_at_call 28; refine (hfl' _ ((Below.refl _ _).alloc (Nat.le_refl _) _)).mono ?_; rintro e w1 ⟨g, rfl, hgo1⟩)
  go_loopw [10] (fun i wr => ∃ k : Nat, k ≤ n ∧ i = .int .i64 k ∧ (l.take k).all okF = true ∧ Going w g l wr) (fun i _ => n - (intOf i).toNat)
  case atStart => exact ⟨0, Nat.zero_le _, rfl, rfl, hgo1⟩
  case round =>
    obtain ⟨k, hk, rfl, hall, hgo⟩ := hrel
    have HA := Lib.hid hall
    have HG := Lib.hid hgo
    clear hall hgo hgo1
    by_cases hlt : k < n
    · have hkl : k < l.length := by rw [HN.out]; exact hlt
      obtain ⟨c0, c1, c2⟩ := HG.out.cells hkl
      have hbd := HF.out l[k] (List.getElem_mem hkl)
      have hts : l.take (k + 1) = l.take k ++ [l[k]] := List.take_succ_eq_append_getElem hkl
      have hdr : l = l.take k ++ l[k] :: l.drop (k + 1) := by simp
      have HT := Lib.hid hts
      obtain ⟨X, hX⟩ : ∃ X, l[k] = X := ⟨_, rfl⟩
      rw [hX] at c0 c1 c2 hbd
      have HX := Lib.hid hX
      clear hts hX hdr
      obtain ⟨Z, hZ⟩ : ∃ Z : Int, (sizeF X.1 : Int) = Z := ⟨_, rfl⟩
      obtain ⟨N, hN⟩ : ∃ N : Int, X.2 = N := ⟨_, rfl⟩
      obtain ⟨M, hM⟩ : ∃ M : Int, mostF X.1 = M := ⟨_, rfl⟩
      rw [hZ] at c0
      rw [hN] at c1 hbd
      rw [hM] at c2
      obtain ⟨n1, n2⟩ := hbd
      have HO : Hid (okF X = (decide (0 ≤ N) && decide (N ≤ M))) := by rw [← hN, ← hM]; exact Lib.hid rfl
      clear hZ hN hM
      have hcase : N < 0 ∨ (0 ≤ N ∧ M < N) ∨ (0 ≤ N ∧ N ≤ M) := by omega
      rcases hcase with h0 | ⟨h0, h1⟩ | ⟨h0, h1⟩
      · go_wp2
        go_ret
        refine ⟨ret_bool ?_, (HG.out.alloc _).below⟩
        exact (no_all HX.out hkl (by rw [HO.out]; simp; omega)).symm
      · go_wp2
        go_ret
        refine ⟨ret_bool ?_, (HG.out.alloc _).below⟩
        exact (no_all HX.out hkl (by rw [HO.out]; simp; omega)).symm
      · go_wp2
        go_roundw
        case rel => exact ⟨k + 1, by omega, by go_num, by rw [HT.out, List.all_append, HA.out, HX.out, List.all_cons, HO.out]; simp; omega, HG.out.alloc _⟩
        case measure => simp [intOf]; omega
    · obtain rfl : k = n := by omega
      go_wp2
      go_ret
      refine ⟨ret_bool ?_, HG.out.below⟩
      have := HA.out
      rw [List.take_of_length_le (by rw [HN.out]; exact Nat.le_refl _)] at this
      exact this.symm
theorem rgood_none (p : Pl) (w : World) (h : p.fr = none) : Calls Try.prog 13 #[p.val] w (Told (.bool false) w) := by
  have hfl := fun W => fields_none p W h
  obtain ⟨a0, a1, a2, a3, a4, a5, a6, a7, a8, a9, a10, a11, a12, a13⟩ := p
  simp only [Pl.val] at hfl ⊢
  clear h
  go_enter Try.func13, Try.ntmps13
  go_wp2_with (go_at_call 28; refine (hfl _).mono ?_; rintro e w1 ⟨rfl, hb1⟩)
  refine wp_loop_rounds 1 ?_
  rw [rounds_succ]
  go_wp2
  go_ret
  exact ⟨rfl, ((Below.refl _ _).alloc (Nat.le_refl _) _).trans (hb1.mono (by simp))⟩
end Go.Proofs.Ytbdlpkkgfhknkaa
