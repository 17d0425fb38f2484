/- What a pen answers. -/
import Derived.Test.YtbdlpkkgfhknkaaOctB
import Derived.Deep.RegionHeld3
import Derived.Deep.RegionLaw
import Derived.Deep.AppendLies
import Derived.Laws.ShiftsVar
namespace Go.Proofs.Ytbdlpkkgfhknkaa
open Go.RowKit

/-- A pen at block g that has put these bytes: they lie in no block older than B. -/
def Pens (w : World) (B g : Nat) (zs : List Int) : Prop :=
  B ≤ g ∧ (∀ n ∈ zs, (Lit.int .u8 n).wf = true) ∧ ∃ A c, Holds w g 64 #[.slice A zs.length c] ∧ w.ownsRow B 5 1 (.slice A zs.length c) zs.length (zs.map (.int .u8))

/-- The pen itself was answered, and it has put these bytes. -/
def GavePen (B g : Nat) (zs : List Int) (w : World) (e : Ending) (w' : World) : Prop :=
  e = .returned (.pointer (some ⟨g, 0, none⟩)) ∧ Pens w' B g zs ∧ Below B w w'
theorem two_pow8 (j : Nat) : (2 : Int) ^ (8 * j) = 256 ^ j := by
  rw [Int.pow_mul]
  rfl
theorem shift_byte (N : Int) (j : Nat) : N / 2 ^ (8 * (j : Int)).toNat = N / 256 ^ j := by
  rw [show (8 * (j : Int)).toNat = 8 * j by omega, two_pow8]
theorem keep_cell {w w1 : World} {o : Obj} {g : Nat} {row : Option Nat} {v : Value} (hg : ((w.alloc o).drew).grownBy w1 row) (hlt : g < w.heap.size) (hr : row ≠ some g) (h : w.cell? ⟨g, 0, none⟩ = some v) : w1.cell? ⟨g, 0, none⟩ = some v := by
  have e1 : w1.cell? ⟨g, 0, none⟩ = (w.alloc o).cell? ⟨g, 0, none⟩ := hg.cell_far ⟨g, 0, none⟩ (by show g < (w.alloc o).heap.size; rw [size_alloc]; omega) (Ne.symm hr)
  exact e1.trans ((World.cell?_alloc_lt w o ⟨g, 0, none⟩ hlt).trans h)
theorem keep_soft {w w1 : World} {o : Obj} {g : Nat} {row : Option Nat} (hg : ((w.alloc o).drew).grownBy w1 row) (hlt : g < w.heap.size) (hr : row ≠ some g) (h : w.frozen? ⟨g, 0, none⟩ = false) : w1.frozen? ⟨g, 0, none⟩ = false := by
  have e1 : w1.frozen? ⟨g, 0, none⟩ = (w.alloc o).frozen? ⟨g, 0, none⟩ := hg.frozen_far ⟨g, 0, none⟩ (by show g < (w.alloc o).heap.size; rw [size_alloc]; omega) (Ne.symm hr)
  exact e1.trans ((World.frozen?_of_block (Below.heap_alloc w o g hlt)).trans h)
/-- Behind some rounds: I bytes are still to be put of M. -/
def Putting (B g : Nat) (M N : Int) (zs : List Int) (w : World) (I : Int) (w' : World) : Prop :=
  ∃ pre : List Int, pre ++ putB I.toNat N = putB M.toNat N ∧ pre.length + I.toNat ≤ 8 ∧ Pens w' B g (zs ++ pre) ∧ Below B w w'
theorem byte_wf (n : Int) : (Lit.int .u8 (n % 256)).wf = true := WalkArith.wf_u8 (by omega)
theorem putting_step {B g n c gg cap j : Nat} {M N D E : Int} {zs pre : List Int} {w wr w1 : World} {A : Option Addr} {o : Obj} (hBg : B ≤ g) (hBw : B ≤ wr.heap.size) (hwf : ∀ n ∈ zs ++ pre, (Lit.int .u8 n).wf = true)
    (hn : (zs ++ pre).length = n) (hh : Holds wr g 64 #[.slice A n c]) (ho : wr.ownsRow B 5 1 (.slice A n c) n ((zs ++ pre).map (.int .u8)))
    (hpre : pre ++ putB ((j : Int) + 1).toNat N = putB M.toNat N) (hle : pre.length + (j + 1) ≤ 8) (hb : Below B w wr) (hD : N / 2 ^ (8 * (j : Int)).toNat = D) (hE : D % 256 = E)
    (hown : w1.ownsRow B 5 1 (.slice (some ⟨gg, 0, none⟩) (n + 1) cap) (n + 1) ((zs ++ pre).map (.int .u8) ++ [.int .u8 E])) (hgrow : ((wr.alloc o).drew).grownBy w1 (Value.slice A n c).ownBlock) :
    Putting B g M N zs w (j : Int) (w1.setCell ⟨g, 0, none⟩ (.slice (some ⟨gg, 0, none⟩) (n + 1) cap)) := by
  have hx := hh.own_apart ho (by decide)
  have hh1 : Holds w1 g 64 #[.slice A n c] := Holds.grown (w := (wr.alloc o).drew) (hh.alloc o) hgrow (Ne.symm hx)
  have hb1 : Below B w w1 := (((hb.alloc hBw o).drew).grown hgrow (by show B ≤ (wr.alloc o).heap.size; rw [size_alloc]; omega) (fun k hk => (ho.lt k hk).1))
  have hx1 := hh1.own_apart hown (by decide)
  refine ⟨pre ++ [E], ?_, by simp; omega, ⟨hBg, ?_, some ⟨gg, 0, none⟩, cap, ?_, ?_⟩, hb1.setCell (p := ⟨g, 0, none⟩) hBg _⟩
  · rw [← hpre, show ((j : Int) + 1).toNat = j + 1 by omega, show (j : Int).toNat = j by omega, putB, ← shift_byte, hD, hE]
    simp
  · intro z hz
    rw [← List.append_assoc] at hz
    rcases List.mem_append.1 hz with hz | hz
    · exact hwf z hz
    · simp only [List.mem_cons, List.not_mem_nil, or_false] at hz
      rw [hz, ← hE]
      exact byte_wf D
  · have := hh1.put 0 (.slice (some ⟨gg, 0, none⟩) (n + 1) cap)
    rw [← List.append_assoc, List.length_append, hn]
    simpa using this
  · have := hown.kept (row := some g) (grown_set w1 g 0 (.slice (some ⟨gg, 0, none⟩) (n + 1) cap)) (.inr hx1)
    rw [← List.append_assoc, List.length_append, hn, List.map_append]
    exact this
set_option maxHeartbeats 2000000 in
theorem pen_num (B g : Nat) (K N : Int) (zs : List Int) (w : World) (h : Pens w B g zs) (hB : B ≤ w.heap.size) (hK : Fits K) (hN : 0 ≤ N ∧ N ≤ 18446744073709551615) (hl : zs.length ≤ 65536) :
    Calls Try.prog 22 #[.pointer (some ⟨g, 0, none⟩), .int .i64 K, .int .u64 N] w (GavePen B g (zs ++ putB (min K 8).toNat N) w) := by
  obtain ⟨i0, hi, hz0, hz1, hz2⟩ := info_parts byte_info
  have H2 := Lib.hid hz2
  have H1 := Lib.hid hz1
  have H0 := Lib.hid hz0
  obtain ⟨k1, k2⟩ := hK
  obtain ⟨n1, n2⟩ := hN
  have H := Lib.hid h
  clear h hz0 hz1 hz2
  obtain ⟨M, hM⟩ : ∃ M, min K 8 = M := ⟨_, rfl⟩
  have hcase : (8 < K ∧ 8 = M) ∨ (K ≤ 8 ∧ K = M) := by omega
  rw [hM]
  clear hM
  rcases hcase with ⟨h8, rfl⟩ | ⟨h8, rfl⟩
  all_goals
    go_enter Try.func22, Try.ntmps22
    go_wp2
    go_loopw [7] (fun i wr => ∃ I : Int, I ≤ 8 ∧ -9223372036854775808 ≤ I ∧ i = .int .i64 I ∧ Putting B g _ N zs w I wr) (fun i _ => (intOf i).toNat)
    case atStart => exact ⟨_, by omega, by omega, rfl, [], rfl, by simp <;> omega, by simpa using H.out, Below.refl _ _⟩
    case round =>
      obtain ⟨I, i1, i2, rfl, hput⟩ := hrel
      by_cases hlt : 0 < I
      · obtain ⟨j, rfl⟩ : ∃ j : Nat, I = (j : Int) + 1 := ⟨(I - 1).toNat, by omega⟩
        obtain ⟨pre, hpre, hle, ⟨hBg, hwf, A, c, hh, ho⟩, hb⟩ := hput
        have hBw : B ≤ wr.heap.size := Nat.le_trans hB hb.size
        have hj1 := IntWalk.i64_in (j : Int) (by omega)
        have hj2 := IntWalk.i64_in (8 * (j : Int)) (by omega)
        have hj0 : (0 : Int) ≤ 8 * (j : Int) := by omega
        obtain ⟨D, hD⟩ : ∃ D : Int, N / 2 ^ (8 * (j : Int)).toNat = D := ⟨_, rfl⟩
        have hD8 := wrap_u8 D
        obtain ⟨E, hE⟩ : ∃ E : Int, D % 256 = E := ⟨_, rfl⟩
        rw [hE] at hD8
        obtain ⟨n, hn⟩ : ∃ n : Nat, (zs ++ pre).length = n := ⟨_, rfl⟩
        have hn1 : n ≤ 65544 := by rw [← hn, List.length_append]; omega
        rw [hn] at hh ho
        have HX := Lib.hid (hh.own_apart ho (by decide))
        have hglt := hh.lt
        have HD := Lib.hid hD
        have HE := Lib.hid hE
        have Hn := Lib.hid hn
        have Hw := Lib.hid hwf
        clear hE hn hwf
        have c0 := hh.cell 0
        have f0 := hh.soft 0
        have Hh := Lib.hid hh
        have Ho := Lib.hid ho
        have HP := Lib.hid hpre
        clear hh ho hpre
        go_wp2
        go_region_law ((refine step_append_lies _ (by rfl) _ _ _ (by rfl) B 5 i0 _ 1 1 Try.underlying29 hi H0.out H1.out H2.out rfl (by omega) (.slice A n c) n _ (by rfl) ((Ho.out.alloc _).drew) ⟨wr.heap.size, 0, none⟩ 1 1 [.int .u8 E] (by rfl) (by rfl) (World.news_of_block (cs := #[.int .u8 E]) (t := 5) (fr := (0, 0)) (heap_alloc_new wr _)) (by simp [Value.oneCell']) (by omega) (by unfold maxLen; omega) (by omega) (by simp; omega) (wr.heap.size + 1) (by simp) ?_; intro gg cap w1 hown1 hgrow hat hlt1; have e0 := keep_cell hgrow hglt HX.out c0; have e1 := keep_soft hgrow hglt HX.out f0))
        all_goals
          go_wp2
          go_roundw
          case rel => exact ⟨(j : Int), by omega, by omega, by go_num, putting_step hBg hBw Hw.out Hn.out Hh.out Ho.out HP.out (by omega) hb HD.out HE.out hown1 hgrow⟩
          case measure => simp [intOf]
      · obtain ⟨pre, hpre, hle, hp, hb⟩ := hput
        have HP := Lib.hid hpre
        have HH := Lib.hid hp
        clear hpre hp
        go_wp2
        go_ret
        refine ⟨rfl, ?_, hb⟩
        have hy := HP.out
        rw [show I.toNat = 0 by omega, putB, List.append_nil] at hy
        have hx := HH.out
        rw [hy] at hx
        exact hx
theorem pen_nil (K N : Int) (w : World) :
    Calls Try.prog 22 #[.pointer none, .int .i64 K, .int .u64 N] w fun e w' => e = .returned (.pointer none) ∧ w = w' := by
  go_enter Try.func22, Try.ntmps22
  go_wp2
  go_ret
  exact ⟨rfl, rfl⟩
theorem bytes_any (B g : Nat) (zs : List Int) (w : World) (h : Pens w B g zs) (hl : zs.length ≤ 65536) :
    Calls Try.prog 25 #[.pointer (some ⟨g, 0, none⟩)] w (GaveRow 5 .u8 w zs.length zs) := by
  obtain ⟨i0, hi, hz0, hz1, hz2⟩ := info_parts byte_info
  have H2 := Lib.hid hz2
  have H1 := Lib.hid hz1
  have H0 := Lib.hid hz0
  obtain ⟨hB, hwf, A, c, hh, ho⟩ := h
  have c0 := hh.cell 0
  have c1 := World.cell?_alloc_lt w (.cells #[] 5) ⟨g, 0, none⟩ hh.lt
  obtain ⟨n, hn⟩ : ∃ n, zs.length = n := ⟨_, rfl⟩
  rw [hn] at c0 ho hl ⊢
  have HR := Lib.hid (IntRow.of_own ho hwf)
  clear hz0 hz1 hz2 ho hwf hh hn
  go_enter Try.func25, Try.ntmps25
  go_wp2_with (first
    | (at_builtin; refine wpList_append_row _ rfl (.tmp 5) (.tmp 9) _ rfl w.heap.size 5 i0 _ 1 Try.underlying29 hi H0.out H1.out H2.out rfl _ 0 [] rfl (World.ownsRow_lit (base := w.heap.size) (size := 1) w #[] 0 (Nat.le_refl _) (by simp [maxLen]) (by simp)) .u8 A n c _ rfl (HR.out.alloc _) (by unfold maxLen; omega) (by omega) (by simp) ?_; intro A3 c3 w3 hown3 hb3; simp only [Nat.zero_add, List.nil_append] at hown3))
  go_ret
  exact gave hown3 (((Below.refl _ w).alloc (Nat.le_refl _) _).trans hb3)
/-- A pen that has put nothing. -/
theorem pen_new (w : World) : Pens (w.alloc (.cells #[.slice none 0 0] 64)) w.heap.size w.heap.size [] :=
  ⟨Nat.le_refl _, by simp, none, 0, Holds.new _ _ _, rfl, .inl ⟨rfl, rfl⟩⟩
end Go.Proofs.Ytbdlpkkgfhknkaa
