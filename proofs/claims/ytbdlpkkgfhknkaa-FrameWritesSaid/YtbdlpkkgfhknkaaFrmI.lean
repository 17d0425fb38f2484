/- The document's Put and Bytes. -/
import Derived.Test.YtbdlpkkgfhknkaaFrmH
import Derived.Test.YtbdlpkkgfhknkaaRowGrow
import Derived.Test.YtbdlpkkgfhknkaaCrcD
namespace Go.Proofs.Ytbdlpkkgfhknkaa
open Go.RowKit
set_option linter.unusedSimpArgs false

/-- Behind k rounds. -/
def PutRow (w : World) (k : Nat) (N : Int) (v : Value) (wr : World) : Prop := ∃ A c, v = .slice A k c ∧ wr.ownsRow w.heap.size 5 1 (.slice A k c) k ((putB k N).map (.int .u8)) ∧ Below w.heap.size w wr
theorem putrow_step {w wr w3 : World} {k c3 : Nat} {N D : Int} {A3 : Option Addr} {o : Obj} (hp : putB (k + 1) N = D % 256 :: putB k N) (ho : w3.ownsRow w.heap.size 5 1 (.slice A3 (1 + k) c3) (1 + k) ([.int .u8 (D % 256)] ++ (putB k N).map (.int .u8)))
    (hb : Below w.heap.size w wr) (hs : w.heap.size ≤ wr.heap.size) (hb3 : Below w.heap.size (wr.alloc o) w3) : PutRow w (k + 1) N (.slice A3 (1 + k) c3) w3 := by
  refine ⟨A3, c3, by rw [Nat.add_comm], ?_, (hb.alloc hs o).trans hb3⟩
  rw [hp, Nat.add_comm k 1]
  exact ho
set_option maxHeartbeats 1000000 in
set_option maxRecDepth 20000 in
theorem rput_any (s : Nat) (N : Int) (w : World) (hs : s ≤ 8) (hN : 0 ≤ N ∧ N ≤ 18446744073709551615) :
    Calls Try.prog 29 #[.int .i64 (s : Int), .int .u64 N] w (GaveRow 5 .u8 w s (putB s N)) := by
  obtain ⟨i0, hi, hz0, hz1, hz2⟩ := info_parts byte_info
  have H2 := Lib.hid hz2
  have H1 := Lib.hid hz1
  have H0 := Lib.hid hz0
  obtain ⟨n1, n2⟩ := hN
  clear hz0 hz1 hz2
  go_enter Try.func29, Try.ntmps29
  go_wp2
  go_loopw [1, 5, 6] (fun m v i wr => ∃ k : Nat, k ≤ s ∧ i = .int .i64 k ∧ m = .int .u64 (N / 256 ^ k) ∧ PutRow w k N v wr) (fun _ _ i _ => s - (intOf i).toNat)
  case atStart => exact ⟨0, Nat.zero_le _, rfl, by simp, none, 0, rfl, ⟨rfl, .inl ⟨rfl, rfl⟩⟩, Below.refl _ _⟩
  case round =>
    obtain ⟨k, hk, rfl, rfl, A, c, rfl, hown, hb⟩ := hrel
    have hp : (0 : Int) < 256 ^ k := Int.pow_pos (by omega)
    have hd : 0 ≤ N / 256 ^ k := Int.ediv_nonneg n1 (by omega)
    have hd2 : N / 256 ^ k ≤ N := Int.ediv_le_self _ n1
    have hnext : N / 256 ^ (k + 1) = N / 256 ^ k / 256 := by rw [Int.pow_succ, Int.ediv_mul, if_neg (by omega), Int.add_zero]
    have hput : putB (k + 1) N = (N / 256 ^ k % 256) :: putB k N := rfl
    obtain ⟨D, hD⟩ : ∃ D, N / 256 ^ k = D := ⟨_, rfl⟩
    rw [hD] at hd hd2 hnext hput
    rw [hD]
    have HX := Lib.hid hnext
    have HP := Lib.hid hput
    have HO := Lib.hid hown
    have HB := Lib.hid hb
    have HS : Hid (w.heap.size ≤ wr.heap.size) := Lib.hid hb.size
    clear hD hp hnext hput hown hb
    by_cases hlt : k < s
    · have e1 : decide ((k : Int) < (s : Int)) = true := by simp; omega
      have e2 : decide ((k : Int) < 8) = true := by simp; omega
      have HONE : Hid ((wr.alloc (.cells #[.int .u8 (D % 256)] 5)).ownsRow w.heap.size 5 1 (.slice (some ⟨wr.heap.size, 0, none⟩) 1 1) 1 [.int .u8 (D % 256)]) := World.ownsRow_lit (base := w.heap.size) (size := 1) wr #[.int .u8 (D % 256)] 1 HS.out (by simp [maxLen]) (by simp)
      go_wp2_with (at_builtin; refine wpList_append_row _ rfl (.tmp 19) (.tmp 20) _ rfl w.heap.size 5 i0 _ 1 Try.underlying29 hi H0.out H1.out H2.out rfl _ 1 [.int .u8 (D % 256)] rfl HONE.out .u8 A k c (putB k N) rfl ((IntRow.of_own HO.out (put_wf k N)).alloc _) (by unfold maxLen; omega) (by omega) (by have := HS.out; simp; omega) ?_; intro A3 c3 w3 hown3 hb3)
      go_roundw
      case rel => exact ⟨k + 1, by omega, by go_num, by rw [HX.out], putrow_step HP.out hown3 HB.out HS.out hb3⟩
      case measure => simp [intOf]; omega
    · obtain rfl : k = s := by omega
      go_wp2
      go_ret
      exact gave HO.out HB.out
/-- While a frame's bytes are put one field behind another. -/
structure Putting5 (w : World) (g : Nat) (l : List (Int × Int)) (k : Int) (j : Nat) (v : Value) (wr : World) : Prop where
  going : Going w g l wr
  row : ∃ A m c, v = .slice A m c ∧ m = (k :: bytesF (l.take j)).length ∧ wr.ownsRow w.heap.size 5 1 (.slice A m c) m ((k :: bytesF (l.take j)).map (.int .u8))
theorem bytesF_append (a b : List (Int × Int)) : bytesF (a ++ b) = bytesF a ++ bytesF b := by simp [bytesF]
theorem bytesF_one (x : Int × Int) : bytesF [x] = putB (sizeF x.1) x.2 := by simp [bytesF]
theorem putting5_step {w wr w2 w3 : World} {g j m c c3 s : Nat} {l : List (Int × Int)} {k : Int} {A A3 : Option Addr} {X : Int × Int} {o : Obj} (hj : j < l.length) (hX : l[j] = X) (hs : sizeF X.1 = s)
    (hg : Going w g l wr) (hm : m = (k :: bytesF (l.take j)).length) (ho : wr.ownsRow w.heap.size 5 1 (.slice A m c) m ((k :: bytesF (l.take j)).map (.int .u8)))
    (hb : Below (wr.alloc o).heap.size (wr.alloc o) w2) (hgr : w2.grownBy w3 (Value.slice A m c).ownBlock)
    (ho3 : w3.ownsRow w.heap.size 5 1 (.slice A3 (m + s) c3) (m + s) ((k :: bytesF (l.take j)).map (.int .u8) ++ (putB s X.2).map (.int .u8))) : Putting5 w g l k (j + 1) (.slice A3 (m + s) c3) w3 := by
  have hb0 := hg.below.alloc hg.below.size o
  have hb1 := hb0.trans (hb.mono hb0.size)
  have hrow := (hg.row.alloc o).below hb (hg.row.alloc o).lt
  have hx := hg.row.own_apart ho (by decide)
  have hts : l.take (j + 1) = l.take j ++ [X] := by rw [List.take_succ_eq_append_getElem hj, hX]
  have e : k :: bytesF (l.take (j + 1)) = (k :: bytesF (l.take j)) ++ putB s X.2 := by rw [hts, bytesF_append, bytesF_one, hs]; rfl
  refine ⟨⟨hb1.grown hgr hb1.size (fun b hb' => (ho.lt b hb').1), hrow.grown hgr (Ne.symm hx)⟩, A3, m + s, c3, rfl, ?_, ?_⟩
  · rw [e, List.length_append, ← hm, put_length]
  · rw [e, List.map_append]
    exact ho3
set_option maxHeartbeats 4000000 in
set_option maxRecDepth 20000 in
theorem rbytes_any (p : Pl) (f : Fr) (w : World) (hp : p.wf) (h : p.fr = some f) (hgood : f.good = true) : Calls Try.prog 14 #[p.val] w (GaveRow 5 .u8 w (f.bytes.length + 2) f.sealed) := by
  have hfl := fun W => fields_any p f W hp h
  have hpk := Pl.kind_of h
  have hkr := f.kind_range
  have hlen8 : f.fields.length ≤ 8 := by cases f <;> simp [Fr.fields]
  have hfits : ∀ x ∈ f.fields, 0 ≤ x.2 ∧ x.2 ≤ 9223372036854775807 := fun x hx => by
    have h1 := List.all_eq_true.1 hgood x hx
    have h2 := asks_fits (hp.fr h) x (List.mem_cons_of_mem _ hx)
    simp [okF] at h1
    exact ⟨h1.1, h2.2⟩
  have hbytes : f.bytes = f.kind :: bytesF f.fields := rfl
  obtain ⟨k, hk⟩ : ∃ k, f.kind = k := ⟨_, rfl⟩
  obtain ⟨l, hl⟩ : ∃ l, f.fields = l := ⟨_, rfl⟩
  unfold Fr.sealed
  rw [hk] at hpk hkr
  rw [hl] at hlen8 hfits
  rw [hk, hl] at hbytes
  simp only [hl] at hfl
  rw [hbytes]
  have hle := bytesF_le l
  have hwf := bytes_wf l
  clear hbytes hk hl hgood h hp
  obtain ⟨n, hn⟩ : ∃ n, l.length = n := ⟨_, rfl⟩
  rw [hn] at hlen8 hle
  have HN := Lib.hid hn
  have HF := Lib.hid hfits
  have HW : Hid (∀ z ∈ k :: bytesF l, (Lit.int .u8 z).wf = true) := Lib.hid (fun z hz => by
    rcases List.mem_cons.1 hz with rfl | hz
    · exact WalkArith.wf_u8 (by omega)
    · exact hwf z hz)
  obtain ⟨L, hL⟩ : ∃ L, (k :: bytesF l).length = L := ⟨_, rfl⟩
  have hL8 : L ≤ 65 := by rw [← hL, List.length_cons]; omega
  rw [hL]
  have HL := Lib.hid hL
  obtain ⟨k1, k2⟩ := hkr
  clear hn hfits hwf hL hle
  obtain ⟨a0, a1, a2, a3, a4, a5, a6, a7, a8, a9, a10, a11, a12, a13⟩ := p
  obtain rfl : a0 = k := hpk
  simp only [Pl.val] at hfl ⊢
  obtain ⟨i0, hi, hz0, hz1, hz2⟩ := info_parts byte_info
  have H2 := Lib.hid hz2
  have H1 := Lib.hid hz1
  have H0 := Lib.hid hz0
  clear hz0 hz1 hz2
  have hfl' : ∀ W : World, Below w.heap.size w W → Calls Try.prog 28 #[.agg #[.int .i64 a0, .int .i64 a1, .int .i64 a2, .int .i64 a3, .int .u16 a4, .int .u16 a5, .int .i64 a6, .int .i64 a7, .int .i64 a8, .int .i64 a9, .int .i64 a10, .int .i64 a11, .int .i64 a12, .int .i64 a13]] W fun e w' =>
      ∃ g, e = .returned (.slice (some ⟨g, 0, none⟩) n n) ∧ Going w g l w' ∧ Below W.heap.size W w' := fun W hW => (hfl W).mono fun e w' ⟨g, he, hh, hg, hb⟩ => ⟨g, by rw [he, HN.out], ⟨hW.trans (hb.mono hW.size), hh⟩, hb⟩
  clear hfl
  go_enter Try.func14, Try.ntmps14
  go_wp2_with (go_at_call 28; refine (hfl' _ (((Below.refl _ _).alloc (Nat.le_refl _) _).alloc (by simp) _)).mono ?_; rintro e w1 ⟨g, rfl, hgo1, hb1⟩)
  have HS : Hid (Putting5 w g l a0 0 (.slice (some ⟨w.heap.size + 1, 0, none⟩) 1 1) w1) := Lib.hid ⟨hgo1, _, 1, 1, rfl, rfl, by
    have h1 := World.ownsRow_lit (base := w.heap.size) (e := 5) (size := 1) (w.alloc (.cells #[.int .i64 a0, .int .i64 a1, .int .i64 a2, .int .i64 a3, .int .u16 a4, .int .u16 a5, .int .i64 a6, .int .i64 a7, .int .i64 a8, .int .i64 a9, .int .i64 a10, .int .i64 a11, .int .i64 a12, .int .i64 a13] 24)) #[.int .u8 a0] 1 (by simp) (by simp [maxLen]) (by simp)
    rw [size_alloc] at h1
    exact own_keep h1 hb1⟩
  clear hgo1
  go_loopw [3, 14] (fun v i wr => ∃ j : Nat, j ≤ n ∧ i = .int .i64 j ∧ Putting5 w g l a0 j v wr) (fun _ i _ => n - (intOf i).toNat)
  case atStart => exact ⟨0, Nat.zero_le _, rfl, HS.out⟩
  case round =>
    obtain ⟨j, hj, rfl, hgo, A, m, c, rfl, hm, hown⟩ := hrel
    have HO := Lib.hid hown
    have HG := Lib.hid hgo
    have HM := Lib.hid hm
    clear hown hgo HS
    by_cases hlt : j < n
    · have hkl : j < l.length := by rw [HN.out]; exact hlt
      obtain ⟨c0, c1, c2⟩ := HG.out.cells hkl
      have hbd := HF.out l[j] (List.getElem_mem hkl)
      have hml : m ≤ 73 := by
        have := bytesF_le (l.take j)
        rw [hm, List.length_cons]
        have := List.length_take_le j l
        omega
      obtain ⟨X, hX⟩ : ∃ X, l[j] = X := ⟨_, rfl⟩
      rw [hX] at c0 c1 c2 hbd
      have HX := Lib.hid hX
      clear hX hm
      have hz := size_le X.1
      obtain ⟨Z, hZ⟩ : ∃ Z : Nat, sizeF X.1 = Z := ⟨_, rfl⟩
      obtain ⟨N, hNN⟩ : ∃ N : Int, X.2 = N := ⟨_, rfl⟩
      obtain ⟨M, hM⟩ : ∃ M : Int, mostF X.1 = M := ⟨_, rfl⟩
      rw [hZ] at c0 hz
      rw [hNN] at c1 hbd
      rw [hM] at c2
      obtain ⟨n1, n2⟩ := hbd
      have HZ := Lib.hid hZ
      have hput := fun W => rput_any Z N W hz.2 ⟨n1, by omega⟩
      have HNN := Lib.hid hNN
      obtain ⟨z1, z2⟩ := hz
      clear hZ hM hNN
      go_wp2_with (first
        | (go_at_call 29; refine (hput _).mono ?_; rintro e w2 ⟨A2, c2', rfl, ho2, hb2⟩)
        | (at_builtin; refine wpList_append_grow _ rfl (.tmp 18) (.tmp 24) _ rfl w.heap.size 5 i0 _ 1 Try.underlying29 hi H0.out H1.out H2.out rfl _ m ((a0 :: bytesF (l.take j)).map (.int .u8)) rfl (own_keep (HO.out.alloc _) hb2) .u8 A2 Z c2' (putB Z N) rfl (IntRow.of_own ho2 (put_wf Z N)) (by unfold maxLen; omega) (by omega) (Nat.le_trans (HG.out.alloc _).below.size hb2.size) ?_; intro A3 c3 w3 hown3 hgr3))
      go_roundw
      case rel => exact ⟨j + 1, by omega, by go_num, putting5_step hkl HX.out HZ.out HG.out HM.out HO.out hb2 hgr3 (by rw [HNN.out]; exact hown3)⟩
      case measure => simp [intOf]; omega
    · obtain rfl : j = n := by omega
      have hmL : m = L := by rw [hm, List.take_of_length_le (by rw [HN.out]; exact Nat.le_refl _)]; exact HL.out
      have hT : Hid (l.take j = l) := Lib.hid (List.take_of_length_le (by rw [HN.out]; exact Nat.le_refl _))
      clear hm
      subst hmL
      have HO2 := Lib.hid (show wr.ownsRow w.heap.size 5 1 (.slice A m c) m ((a0 :: bytesF l).map (.int .u8)) by have := HO.out; rw [hT.out] at this; exact this)
      have hsum := rsum_any A m c (a0 :: bytesF l) wr (IntRow.of_own HO2.out HW.out)
      have hlt := (sumOf (a0 :: bytesF l)).isLt
      obtain ⟨S, hS⟩ : ∃ S : Int, ((sumOf (a0 :: bytesF l)).toNat : Int) = S := ⟨_, rfl⟩
      have s1 : 0 ≤ S := by omega
      have s2 : S ≤ 65535 := by omega
      rw [hS] at hsum
      have HSS : Hid (sealed (a0 :: bytesF l) = (a0 :: bytesF l) ++ [S / 256, S % 256]) := by unfold sealed; rw [hS]; exact Lib.hid rfl
      have HV : Hid (∀ n ∈ [S / 256, S % 256], (Lit.int .u8 n).wf = true) := Lib.hid (by
        intro n hn
        simp only [List.mem_cons, List.not_mem_nil, or_false] at hn
        rcases hn with rfl | rfl
        · exact WalkArith.wf_u8 (by omega)
        · exact WalkArith.wf_u8 (by omega))
      clear hS hlt
      have q1 : S.tdiv 256 = S / 256 := Int.tdiv_eq_ediv_of_nonneg s1
      have q2 : IntKind.u16.wrap (S / 256) = S / 256 := by rw [wrap_u16]; omega
      have q3 : S / 256 % 256 = S / 256 := by omega
      go_wp2_with (first
        | (go_at_call 19; refine hsum.mono ?_; rintro e w' ⟨rfl, rfl⟩)
        | (at_builtin; refine wpList_append_row _ rfl (.tmp 29) (.tmp 36) _ rfl w.heap.size 5 i0 _ 1 Try.underlying29 hi H0.out H1.out H2.out rfl _ m ((a0 :: bytesF l).map (.int .u8)) rfl (HO2.out.alloc _) .u8 _ 2 2 [S / 256, S % 256] rfl (IntRow.laid wr _ _ _ 2 rfl (by simp [maxLen]) HV.out) (by unfold maxLen; omega) (by omega) (HG.out.alloc _).below.size ?_; intro A3 c3 w3 hown3 hb3))
      go_ret
      refine gave ?_ ((HG.out.alloc _).below.trans hb3)
      rw [HSS.out, List.map_append]
      exact hown3
end Go.Proofs.Ytbdlpkkgfhknkaa
