/- What Encode answers. -/
import Derived.Test.YtbdlpkkgfhknkaaFrmS
import Derived.Test.YtbdlpkkgfhknkaaOctC
import Derived.Test.YtbdlpkkgfhknkaaCrcD
namespace Go.Proofs.Ytbdlpkkgfhknkaa
open Go.RowKit
set_option linter.unusedSimpArgs false

theorem pen_plain : ¬ frameType 64 := by unfold frameType; decide
theorem byte_plain : ¬ frameType 5 := by unfold frameType; decide
/-- Behind some rounds of a pen, frames' own variables kept. -/
theorem keeps_round {B g n c : Nat} {zs : List Int} {w wr w1 : World} {A : Option Addr} {o : Obj} {u : Value} (hk : KeepsFrames w wr) (hh : Holds wr g 64 #[.slice A n c])
    (ho : wr.ownsRow B 5 1 (.slice A n c) n (zs.map (.int .u8))) (hgrow : ((wr.alloc o).drew).grownBy w1 (Value.slice A n c).ownBlock) : KeepsFrames w (w1.setCell ⟨g, 0, none⟩ u) := by
  refine ⟨?_, fun b t cs ht hb => ?_⟩
  · have h1 := hk.1
    have h2 := hgrow.size
    have h3 : (wr.alloc o).drew.heap.size = wr.heap.size + 1 := size_alloc wr o
    have h4 : (w1.setCell ⟨g, 0, none⟩ u).heap.size = w1.heap.size := by simp [World.setCell]
    omega
  · have hb1 := hk.2 b t cs ht hb
    have hx := hb1.own_apart ho (ne_frame byte_plain ht)
    have hb2 : Holds w1 b t cs := Holds.grown (w := (wr.alloc o).drew) (hb1.alloc o) hgrow (Ne.symm hx)
    exact hb2.far (hb1.apart hh (fun e => ne_frame pen_plain ht e.symm)) u
set_option maxHeartbeats 2000000 in
theorem pen_keeps (B g : Nat) (K N : Int) (zs : List Int) (w : World) (h : Pens w B g zs) (hB : B ≤ w.heap.size) (hK : Fits K) (hN : 0 ≤ N ∧ N ≤ 18446744073709551615) (hl : zs.length ≤ 65536) :
    Calls Try.prog 22 #[.pointer (some ⟨g, 0, none⟩), .int .i64 K, .int .u64 N] w fun e w' => GavePen B g (zs ++ putB (min K 8).toNat N) w e w' ∧ KeepsFrames w w' := by
  obtain ⟨i0, hi, hz0, hz1, hz2⟩ := info_parts byte_info
  have H2 := Lib.hid hz2
  have H1 := Lib.hid hz1
  have H0 := Lib.hid hz0
  obtain ⟨k1, k2⟩ := hK
  obtain ⟨n1, n2⟩ := hN
  have H := Lib.hid h
  clear h hz0 hz1 hz2
  obtain ⟨M, hM⟩ : ∃ M, min K 8 = M := ⟨_, rfl⟩
  have hcase : (8 < K ∧ 8 = M) ∨ (K ≤ 8 ∧ K = M) := by omega
  rw [hM]
  clear hM
  rcases hcase with ⟨h8, rfl⟩ | ⟨h8, rfl⟩
  all_goals
    go_enter Try.func22, Try.ntmps22
    go_wp2
    go_loopw [7] (fun i wr => ∃ I : Int, I ≤ 8 ∧ -9223372036854775808 ≤ I ∧ i = .int .i64 I ∧ Putting B g _ N zs w I wr ∧ KeepsFrames w wr) (fun i _ => (intOf i).toNat)
    case atStart => exact ⟨_, by omega, by omega, rfl, ⟨[], rfl, by simp <;> omega, by simpa using H.out, Below.refl _ _⟩, Nat.le_refl _, fun _ _ _ _ h => h⟩
    case round =>
      obtain ⟨I, i1, i2, rfl, hput, hkeep⟩ := hrel
      have HK := Lib.hid hkeep
      clear hkeep
      by_cases hlt : 0 < I
      · obtain ⟨j, rfl⟩ : ∃ j : Nat, I = (j : Int) + 1 := ⟨(I - 1).toNat, by omega⟩
        obtain ⟨pre, hpre, hle, ⟨hBg, hwf, A, c, hh, ho⟩, hb⟩ := hput
        have hBw : B ≤ wr.heap.size := Nat.le_trans hB hb.size
        have hj1 := IntWalk.i64_in (j : Int) (by omega)
        have hj2 := IntWalk.i64_in (8 * (j : Int)) (by omega)
        have hj0 : (0 : Int) ≤ 8 * (j : Int) := by omega
        obtain ⟨D, hD⟩ : ∃ D : Int, N / 2 ^ (8 * (j : Int)).toNat = D := ⟨_, rfl⟩
        have hD8 := wrap_u8 D
        obtain ⟨E, hE⟩ : ∃ E : Int, D % 256 = E := ⟨_, rfl⟩
        rw [hE] at hD8
        obtain ⟨n, hn⟩ : ∃ n : Nat, (zs ++ pre).length = n := ⟨_, rfl⟩
        have hn1 : n ≤ 65544 := by rw [← hn, List.length_append]; omega
        rw [hn] at hh ho
        have HX := Lib.hid (hh.own_apart ho (by decide))
        have hglt := hh.lt
        have HD := Lib.hid hD
        have HE := Lib.hid hE
        have Hn := Lib.hid hn
        have Hw := Lib.hid hwf
        clear hE hn hwf
        have c0 := hh.cell 0
        have f0 := hh.soft 0
        have Hh := Lib.hid hh
        have Ho := Lib.hid ho
        have HP := Lib.hid hpre
        clear hh ho hpre
        go_wp2
        go_region_law ((refine step_append_lies _ (by rfl) _ _ _ (by rfl) B 5 i0 _ 1 1 Try.underlying29 hi H0.out H1.out H2.out rfl (by omega) (.slice A n c) n _ (by rfl) ((Ho.out.alloc _).drew) ⟨wr.heap.size, 0, none⟩ 1 1 [.int .u8 E] (by rfl) (by rfl) (World.news_of_block (cs := #[.int .u8 E]) (t := 5) (fr := (0, 0)) (heap_alloc_new wr _)) (by simp [Value.oneCell']) (by omega) (by unfold maxLen; omega) (by omega) (by simp; omega) (wr.heap.size + 1) (by simp) ?_; intro gg cap w1 hown1 hgrow hat hlt1; have e0 := keep_cell hgrow hglt HX.out c0; have e1 := keep_soft hgrow hglt HX.out f0))
        all_goals
          go_wp2
          go_roundw
          case rel => exact ⟨(j : Int), by omega, by omega, by go_num, putting_step hBg hBw Hw.out Hn.out Hh.out Ho.out HP.out (by omega) hb HD.out HE.out hown1 hgrow, keeps_round HK.out Hh.out Ho.out hgrow⟩
          case measure => simp [intOf]
      · obtain ⟨pre, hpre, hle, hp, hb⟩ := hput
        have HP := Lib.hid hpre
        have HH := Lib.hid hp
        clear hpre hp
        go_wp2
        go_ret
        refine ⟨⟨rfl, ?_, hb⟩, HK.out⟩
        have hy := HP.out
        rw [show I.toNat = 0 by omega, putB, List.append_nil] at hy
        have hx := HH.out
        rw [hy] at hx
        exact hx
end Go.Proofs.Ytbdlpkkgfhknkaa
