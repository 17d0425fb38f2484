/- The law's both: links, the program's and the document's, behind the same calls of Set. -/
import Derived.Test.YtgmkmkheknibmaaDoorLdS
import Derived.Test.YtgmkmkheknibmaaDoorFlat
import Derived.LoopTactic
namespace Go.Proofs.YtgmkmkheknibmaaDoor
open Go.RowKit
set_option linter.unusedVariables false
set_option linter.unusedSimpArgs false

/-- A row of pairs, wherever it lies. -/
structure PairRow (W : World) (A : Option Addr) (n : Nat) (P : Nat → Int × Int) : Prop where
  max : n ≤ 9223372036854775807
  cell : 0 < n → ∃ b off, A = some ⟨b, off, none⟩ ∧ b < W.heap.size ∧ ∀ i, i < n → W.cell? ⟨b, off + i * 2, none⟩ = some (.int .i64 (P i).1) ∧ W.cell? ⟨b, off + i * 2 + 1, none⟩ = some (.int .i64 (P i).2)
theorem PairRow.below {W W' : World} {A : Option Addr} {n : Nat} {P : Nat → Int × Int} (h : PairRow W A n P) (hb : Below W.heap.size W W') : PairRow W' A n P :=
  ⟨h.max, fun hn => by
    obtain ⟨b, off, e, hlt, hc⟩ := h.cell hn
    exact ⟨b, off, e, Nat.lt_of_lt_of_le hlt hb.size, fun i hi => ⟨(hb.cell (p := ⟨b, off + i * 2, none⟩) hlt).trans (hc i hi).1, (hb.cell (p := ⟨b, off + i * 2 + 1, none⟩) hlt).trans (hc i hi).2⟩⟩⟩
theorem fit_two {W : World} {vs : List Value} (h : Fit W [.int .i64, .int .i64] vs) : ∃ a b : Int, vs = [.int .i64 a, .int .i64 b] := by
  match vs, h.length, h with
  | [_, _], _, h =>
    obtain ⟨⟨x0, rfl, _⟩, ⟨x1, rfl, _⟩, _⟩ := h
    exact ⟨x0, x1, rfl⟩
def twoOf (l : List Value) : Int × Int :=
  match l with
  | [.int _ a, .int _ b] => (a, b)
  | _ => (0, 0)
theorem PairRow.of {W : World} {A : Option Addr} {n c : Nat} {f : Nat → List Value} (h : FlatRow W [.int .i64, .int .i64] A n c f) : PairRow W A n (fun i => twoOf (f i)) := by
  have hm := h.max
  have hc := h.cap_le
  unfold maxLen at hm
  refine ⟨by omega, fun hn => ?_⟩
  obtain ⟨b, off, e, hlt, _⟩ := h.at 2 rfl hn
  refine ⟨b, off, e, hlt, fun i hi => ?_⟩
  obtain ⟨b', off', e', _, hc⟩ := h.at 2 rfl hi
  rw [e] at e'
  cases e'
  obtain ⟨x, y, hf⟩ := fit_two (h.fit i hi)
  rw [hf] at hc ⊢
  exact ⟨hc 0 _ rfl, hc 1 _ rfl⟩
/-- The links behind so many pairs. -/
def madeM (n : Nat) (P : Nat → Int × Int) : Nat → List Nat
  | 0 => List.replicate n 0
  | k + 1 => afterM (madeM n P k) (P k).1 (P k).2 true
set_option maxRecDepth 100000 in
set_option maxHeartbeats 4000000 in
theorem both_any (w : World) (hT : Tab w) (n : Nat) (hn1 : 1 ≤ n) (hn2 : n ≤ 64) (A : Option Addr) (N c : Nat) (P : Nat → Int × Int) (hP : PairRow w A N P) : Calls Tryd.prog 7 #[.int .i64 n, .slice A N c] w fun e w' =>
    ∃ g r gm, e = .returned (.tuple #[.pointer (some ⟨g, 0, none⟩), .pointer (some ⟨gm, 0, none⟩)]) ∧ BRun w n g r gm (madeM n P N) w' := by
  have ht0 := hT.2
  have hnew := fun W => new_any W n hn1 hn2
  obtain ⟨C, hbuild0, hC0⟩ := build_doc
  have hbuild := hbuild0 (n : Int)
  have hC := hC0 (n : Int)
  obtain ⟨Cn, hCn⟩ : ∃ Cn, C (n : Int) = Cn := ⟨_, rfl⟩
  rw [hCn] at hC
  simp only [hCn] at hbuild
  have hbox := box_doc Cn
  have HC := Lib.hid hC
  have HT := Lib.hid hT
  have HP := Lib.hid hP
  have hNmax := hP.max
  clear hbuild0 hC0 hCn hC hT hP
  go_enter Tryd.func7, Tryd.ntmps7
  go_wp2_with (first
    | (go_at_call 13; refine (hnew _).mono ?_; rintro e w2 ⟨rfl, hl2, hb2, hs2⟩; have HL2 := Lib.hid hl2; have HB2 := Lib.hid hb2; clear hl2 hb2)
    | (refine wpList_built rfl 41 _ rfl #[(0, .int .i64 (n : Int))] (by simp [Act.eval, Act.put]) (hbuild _) ?_)
    | (refine wpList_boxed rfl 41 _ rfl (.agg Cn) (by simp [Act.eval, Act.put]) (hbox _) ?_))
  obtain ⟨g, hg⟩ : ∃ g, w.heap.size + 1 = g := ⟨_, rfl⟩
  obtain ⟨r, hr⟩ : ∃ r, w.heap.size = r := ⟨_, rfl⟩
  obtain ⟨gm, hgm⟩ : ∃ gm, w.heap.size + 2 = gm := ⟨_, rfl⟩
  have hrun : BRun w n g r gm (madeM n P 0) (w2.alloc (.cells Cn 41)) := by
    rw [← hg, ← hgm, ← hr, ← hs2]
    exact BRun.new (SRun.new hn1 hn2 HT.out (Below.refl _ _) HL2.out HB2.out) HC.out
  simp only [hg, hgm]
  have HRun := Lib.hid hrun
  clear hrun HL2 hg hr hgm hs2
  go_loopw [21] (fun i wr => ∃ k : Nat, k ≤ N ∧ i = .int .i64 k ∧ BRun w n g r gm (madeM n P k) wr) (fun i _ => N - (intOf i).toNat)
  case atStart => exact ⟨0, Nat.zero_le _, rfl, HRun.out⟩
  case round =>
    obtain ⟨k, hk, rfl, hrun⟩ := hrel
    clear HRun
    have HRun := Lib.hid hrun
    clear hrun
    by_cases hlt : k < N
    · obtain ⟨b, off, rfl, hb', hc⟩ := (HP.out.below HRun.out.s.below).cell (by omega)
      obtain ⟨q0, q1⟩ := hc k hlt
      obtain ⟨s0, hs0⟩ : ∃ s, (P k).1 = s := ⟨_, rfl⟩
      obtain ⟨s1, hs1⟩ : ∃ s, (P k).2 = s := ⟨_, rfl⟩
      have hM : madeM n P (k + 1) = afterM (madeM n P k) s0 s1 true := by rw [← hs0, ← hs1]; rfl
      rw [hs0] at q0
      rw [hs1] at q1
      have ew := IntWalk.i64_in ((k : Int) + 1) (by omega)
      have hki : (k : Int) < (N : Int) := by omega
      have hV := Holds.new wr 49 #[.int .i64 s0, .int .i64 s1]
      have hrunA := HRun.out.alloc (.cells #[.int .i64 s0, .int .i64 s1] 49)
      have hrlt := HRun.out.s.lk.rlt
      have hset := brun_set hrunA ht0 s0 s1 true
      have HV := Lib.hid hV
      have HM := Lib.hid hM
      clear hc hs0 hs1 hV hrunA hM
      go_wp2_with (first
        | (go_at_call 14; (with_reducible refine hset.mono ?_); rintro e w4 ⟨rfl, hrun4, hc4⟩; have hV4 := HV.out.chg hc4 (by omega); have v0 := hV4.cell 0; have v1 := hV4.cell 1; have hset2 := bhalf_set hrun4 ht0; clear hrun4 hc4 hV4)
        | (go_at_call 15; (with_reducible refine hset2.mono ?_); rintro e w5 ⟨rfl, hrun5, hc5⟩; rw [← HM.out] at hrun5; have HRun5 := Lib.hid hrun5; clear hrun5 hc5))
      go_roundw
      case rel => exact ⟨k + 1, by omega, by go_num, HRun5.out⟩
      case measure => simp [intOf]; omega
    · have hkn : k = N := by omega
      subst hkn
      go_wp2
      go_ret2
      exact ⟨g, r, gm, rfl, HRun.out⟩
end Go.Proofs.YtgmkmkheknibmaaDoor
