/- What the laws over a script of calls share. -/
import Derived.Test.YtfekblikiemogaaDoorLkL
namespace Go.Proofs.YtfekblikiemogaaDoor
open Go.RowKit
set_option linter.unusedVariables false

theorem Lk.base {w : World} {B B' g r : Nat} {M : List Nat} (h : Lk w B g r M) (hB : B' ≤ B) : Lk w B' g r M := ⟨h.ptr, h.row, Nat.le_trans hB h.oldg, Nat.le_trans hB h.oldr, h.pos, h.le, h.fit⟩
/-- The links, behind some calls of Set. -/
structure SRun (w : World) (n g r : Nat) (M : List Nat) (W : World) : Prop where
  len : M.length = n
  lk : Lk W w.heap.size g r M
  net : Net M
  tab : Tab W
  below : Below w.heap.size w W
section
variable {w : World} {n g r : Nat} {M : List Nat} {W W' : World}
theorem SRun.below' (h : SRun w n g r M W) (hb : Below W.heap.size W W') : SRun w n g r M W' := ⟨h.len, h.lk.below hb, h.net, h.tab.below hb h.tab.2, h.below.trans (hb.mono h.below.size)⟩
theorem SRun.alloc (h : SRun w n g r M W) (o : Obj) : SRun w n g r M (W.alloc o) := h.below' (below_alloc _ _)
theorem SRun.new {w1 w2 : World} (h1 : 1 ≤ n) (h2 : n ≤ 64) (hT : Tab w) (hb1 : Below w.heap.size w w1) (L : Lk w2 w1.heap.size g r (List.replicate n 0)) (hb2 : Below w1.heap.size w1 w2) : SRun w n g r (List.replicate n 0) w2 :=
  ⟨by simp, L.base hb1.size, Net.zero n, hT.below (hb1.trans (hb2.mono hb1.size)) hT.2, hb1.trans (hb2.mono hb1.size)⟩
theorem SRun.fit (h : SRun w n g r M W) : FitM M := h.lk.fitM
/-- Set, behind whatever was set. -/
theorem srun_set (h : SRun w n g r M W) (ht0 : 0 < w.heap.size) (i k : Int) (on : Bool) : Calls Tryd.prog 12 #[.pointer (some ⟨g, 0, none⟩), .int .i64 i, .int .i64 k, .bool on] W fun e w' =>
    e = .returned (.int .i64 (if mayB n i k then 0 else 1)) ∧ SRun w n g r (afterM M i k on) w' ∧ Chg (fun b => b = r) W w' :=
  (set_any W _ g r M h.lk i k on).mono fun e w' ⟨he, hl, hc⟩ => by
    have hr := h.lk.oldr
    refine ⟨by rw [he, h.len], ⟨by rw [after_len, h.len], hl, h.net.after h.fit i k on, (keepTab_chg hc (by omega)).2 h.tab, Below.chg h.below hc h.below.size (fun b e => by omega)⟩, hc⟩
theorem srun_hops (h : SRun w n g r M W) (i : Int) (on : Nat) (hon : on < 18446744073709551616) : Calls Tryd.prog 17 #[.pointer (some ⟨g, 0, none⟩), .int .i64 i, .int .u64 on] W (GaveInts n (HopsAre M on i) W) := by
  have := hops_any W _ g r M h.lk h.net h.tab i on hon
  rwa [h.len] at this
theorem srun_wide (h : SRun w n g r M W) (on : Nat) (hon : on < 18446744073709551616) : Calls Tryd.prog 11 #[.pointer (some ⟨g, 0, none⟩), .int .u64 on] W (GaveWide M (on &&& (2 ^ n - 1)) W) := by
  have := wide_in W _ g r M h.lk h.net h.tab on hon
  rwa [h.len] at this
theorem srun_may (h : SRun w n g r M W) (i k : Int) : Calls Tryd.prog 16 #[.pointer (some ⟨g, 0, none⟩), .int .i64 i, .int .i64 k] W fun e w' => e = .returned (.bool (mayB n i k)) ∧ w' = W := by
  have := may_lk W _ g r M h.lk i k
  rwa [h.len] at this
theorem hasB_nat {i k : Nat} (hi : i < M.length) (hk : k < M.length) : hasB M (i : Int) (k : Int) = adj M i k := by
  unfold hasB nearV adj
  rw [inB_nat, inB_nat]
  simp [hi, hk]
theorem srun_has (h : SRun w n g r M W) (i k : Nat) (hi : i < n) (hk : k < n) : Calls Tryd.prog 15 #[.pointer (some ⟨g, 0, none⟩), .int .i64 i, .int .i64 k] W fun e w' => e = .returned (.bool (adj M i k)) ∧ w' = W := by
  have := has_lk W _ g r M h.lk (i : Int) (k : Int)
  rwa [hasB_nat (by rw [h.len]; exact hi) (by rw [h.len]; exact hk)] at this
end
/-- All bits. -/
theorem all_ones_bit {k : Nat} (h : k < 64) : (18446744073709551615 : Nat).testBit k = true := by
  rw [show (18446744073709551615 : Nat) = 2 ^ 64 - 1 from rfl, Nat.testBit_two_pow_sub_one]
  simpa using h
section
variable {M M' : List Nat} {on a : Nat}
theorem reach_more (h : ∀ i k, adj M i k = true → adj M' i k = true) : ∀ {d k : Nat}, Reach M on a d k → Reach M' on a d k
  | 0, _, hr => hr
  | _ + 1, _, ⟨i, h1, h2, h3⟩ => ⟨i, reach_more h h1, h _ _ h2, h3⟩
theorem after_more (hf : FitM M) (i k : Int) (x y : Nat) (h : adj M x y = true) : adj (afterM M i k true) x y = true := by
  unfold afterM
  split
  · rename_i hm
    obtain ⟨p, q, rfl, rfl, hp, hq, _⟩ := may_spec hm
    rw [Int.toNat_natCast, Int.toNat_natCast, set_adj hf hp hq]
    split
    · rfl
    · exact h
  · exact h
theorem wide_more {O : Nat} {v v' : Int} {ok' : Bool} (h : ∀ i k, adj M i k = true → adj M' i k = true) (hN : Net M') (hO : ∀ i, O.testBit i = true → i < M'.length) (h1 : WideIs M O v true) (h2 : WideIs M' O v' ok') : ok' = true ∧ v' ≤ v ∧ v' < (M'.length : Int) := by
  rcases h1 with ⟨_, d, rfl, ⟨i0, h0⟩, g1, _⟩ | ⟨hc, _⟩
  · rcases h2 with ⟨rfl, d', rfl, _, _, i, k, hi, hk, hf⟩ | ⟨rfl, rfl, hz | ⟨i, k, hi, hk, hn⟩⟩
    · obtain ⟨e, he, hfe⟩ := g1 i k hi hk
      obtain ⟨e', he', hf'⟩ := first_of (reach_more h hfe.1)
      have := first_one hf hf'
      have := first_lt hN (hO i hi) hf
      exact ⟨rfl, by omega, by omega⟩
    · rw [hz i0] at h0
      cases h0
    · obtain ⟨e, _, hfe⟩ := g1 i k hi hk
      exact absurd (reach_more h hfe.1) (hn e)
  · cases hc
theorem reach_set {on' : Nat} (h : ∀ k, on.testBit k = true → on'.testBit k = true) : ∀ {d k : Nat}, Reach M on a d k → Reach M on' a d k
  | 0, _, hr => ⟨hr.1, h _ hr.2⟩
  | _ + 1, _, ⟨i, h1, h2, h3⟩ => ⟨i, reach_set h h1, h2, h _ h3⟩
/-- Over fewer nodes there is no shorter way. -/
theorem hops_fewer {n : Nat} {i : Int} {H H' : List Int} (hn : M.length = n) (h64 : n ≤ 64) (hN : Net M) (h1 : HopsAre M on i H) (h2 : HopsAre M 18446744073709551615 i H') {k : Nat} (hk : k < n) :
    H.getD k 0 = -1 ∨ ∃ e e' : Nat, H.getD k 0 = (e : Int) ∧ H'.getD k 0 = (e' : Int) ∧ e' ≤ e ∧ on.testBit k = true := by
  rcases h1 with ⟨hb, h1⟩ | ⟨_, rfl⟩
  · rcases h1.2 k (by omega) with ⟨h, _⟩ | ⟨e, he, hf⟩
    · exact .inl h
    · right
      rcases h2 with ⟨_, h2⟩ | ⟨hc, _⟩
      · have hr : Reach M 18446744073709551615 i.toNat e k := by
          have hlt : ∀ {d k : Nat}, Reach M on i.toNat d k → Reach M 18446744073709551615 i.toNat d k := by
            intro d
            obtain ⟨j, hj, hjn⟩ := of_inB hb
            induction d with
            | zero =>
              intro k hr
              exact ⟨hr.1, all_ones_bit (by omega)⟩
            | succ d ih =>
              rintro k ⟨x, h1, h2, h3⟩
              exact ⟨x, ih h1, h2, all_ones_bit (by have := hN.lt _ _ h2; omega)⟩
          exact hlt hf.1
        rcases h2.2 k (by omega) with ⟨_, hno⟩ | ⟨e', he', hf'⟩
        · exact absurd hr (hno e)
        · refine ⟨e, e', he, he', ?_, reach_on hf.1⟩
          obtain ⟨e2, hle, hf2⟩ := first_of hr
          have := first_one hf' hf2
          omega
      · rw [hb] at hc
        cases hc
  · left
    exact hops_none _ k (by omega)
/-- No two that have a link are reached by numbers that differ by more than 1. -/
theorem hops_near {n : Nat} {i : Int} {H : List Int} (hn : M.length = n) (h64 : n ≤ 64) (hN : Net M) (h : HopsAre M 18446744073709551615 i H) {x y : Nat} (hx : x < n) (hy : y < n) (ha : adj M x y = true) :
    (H.getD x 0 = -1 ∧ H.getD y 0 = -1) ∨ ∃ d e : Nat, H.getD x 0 = (d : Int) ∧ H.getD y 0 = (e : Int) ∧ d ≤ e + 1 ∧ e ≤ d + 1 := by
  rcases h with ⟨_, h⟩ | ⟨_, rfl⟩
  · have step : ∀ {p q d : Nat}, p < n → q < n → adj M p q = true → First M 18446744073709551615 i.toNat d p → ∃ e, e ≤ d + 1 ∧ First M 18446744073709551615 i.toNat e q := fun {p q d} hp hq hpq hf =>
      first_of (show Reach M 18446744073709551615 i.toNat (d + 1) q from ⟨p, hf.1, hpq, all_ones_bit (by omega)⟩)
    rcases h.2 x (by omega) with ⟨h1, hno⟩ | ⟨d, hd, hf⟩
    · rcases h.2 y (by omega) with ⟨h2, _⟩ | ⟨e, he, hf'⟩
      · exact .inl ⟨h1, h2⟩
      · obtain ⟨e2, _, hf2⟩ := step hy hx (hN.sym _ _ ha) hf'
        exact absurd hf2.1 (hno e2)
    · rcases h.2 y (by omega) with ⟨_, hno⟩ | ⟨e, he, hf'⟩
      · obtain ⟨e2, _, hf2⟩ := step hx hy ha hf
        exact absurd hf2.1 (hno e2)
      · obtain ⟨e2, h1, hf2⟩ := step hx hy ha hf
        obtain ⟨e3, h2, hf3⟩ := step hy hx (hN.sym _ _ ha) hf'
        have := first_one hf' hf2
        have := first_one hf hf3
        exact .inr ⟨d, e, hd, he, by omega, by omega⟩
  · exact .inl ⟨hops_none _ x (by omega), hops_none _ y (by omega)⟩
theorem hops_self {n i : Nat} {H : List Int} (hn : M.length = n) (h64 : n ≤ 64) (hi : i < n) (h : HopsAre M 18446744073709551615 (i : Int) H) : H.getD i 0 = 0 := by
  rcases h with ⟨_, h⟩ | ⟨hc, _⟩
  · rw [Int.toNat_natCast] at h
    have hr : First M 18446744073709551615 i 0 i := first_zero.2 ⟨rfl, all_ones_bit (by omega)⟩
    rcases h.2 i (by omega) with ⟨_, hno⟩ | ⟨d, hd, hf⟩
    · exact absurd hr.1 (hno 0)
    · rw [hd, first_one hf hr]
      rfl
  · rw [hn, inB_nat] at hc
    simp [hi] at hc
end
theorem hops_lt {M : List Nat} {on n : Nat} {i : Int} {H : List Int} (hn : M.length = n) (h64 : n ≤ 64) (hN : Net M) (h : HopsAre M on i H) (k : Nat) (hk : k < n) : H.getD k 0 < (n : Int) := by
  rcases h with ⟨hb, h⟩ | ⟨_, rfl⟩
  · obtain ⟨j, rfl, hj⟩ := of_inB hb
    rcases h.2 k (by omega) with ⟨h1, _⟩ | ⟨d, hd, hf⟩
    · omega
    · have := first_lt hN (by rw [Int.toNat_natCast]; exact hj) hf
      omega
  · rw [hops_none _ k (by omega)]
    omega
theorem all_mask {n : Nat} (h : n ≤ 64) : 18446744073709551615 &&& (2 ^ n - 1) = 2 ^ n - 1 := by
  apply Nat.eq_of_testBit_eq
  intro j
  rw [Nat.testBit_and, all_bit]
  by_cases hj : j < n
  · rw [all_ones_bit (by omega)]
    simp
  · simp [hj]
theorem srun_wide_all {w : World} {n g r : Nat} {M : List Nat} {W : World} (h : SRun w n g r M W) : Calls Tryd.prog 11 #[.pointer (some ⟨g, 0, none⟩), .int .u64 18446744073709551615] W (GaveWide M (2 ^ n - 1) W) := by
  have := srun_wide h 18446744073709551615 (by decide)
  rw [all_mask (by rw [← h.len]; exact h.lk.le)] at this
  exact this
theorem srun_hops_all {w : World} {n g r : Nat} {M : List Nat} {W : World} (h : SRun w n g r M W) (i : Int) : Calls Tryd.prog 17 #[.pointer (some ⟨g, 0, none⟩), .int .i64 i, .int .u64 18446744073709551615] W (GaveInts n (HopsAre M 18446744073709551615 i) W) :=
  srun_hops h i 18446744073709551615 (by decide)
end Go.Proofs.YtfekblikiemogaaDoor
