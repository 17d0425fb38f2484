/- The document's Read of bytes of a frame's length. -/
import Derived.Test.YtbdlpkkgfhknkaaFrmJ
namespace Go.Proofs.Ytbdlpkkgfhknkaa
open Go.RowKit
set_option linter.unusedSimpArgs false

theorem nums_at : ∀ (ks zs : List Int) (j : Nat) (hj : j < ks.length), (numsF ks zs)[j]? = some (getB ((zs.drop (lenF (ks.take j))).take (sizeF ks[j])))
  | [], _, j, hj => by simp at hj
  | k :: ks, zs, 0, _ => by simp [numsF, lenF]
  | k :: ks, zs, j + 1, hj => by
    have := nums_at ks (zs.drop (sizeF k)) j (by simpa using hj)
    simp only [numsF, List.getElem?_cons_succ, this, List.getElem_cons_succ, List.take_succ_cons, List.drop_drop]
    have e : lenF (k :: ks.take j) = sizeF k + lenF (ks.take j) := by simp [lenF]
    rw [e]
theorem take_drop_take (zs : List Int) (L T Z : Nat) (h : T + Z ≤ L) : ((zs.take L).drop T).take Z = (zs.drop T).take Z := by
  rw [List.drop_take, List.take_take, Nat.min_eq_left (by omega)]
set_option maxRecDepth 100000 in
set_option maxHeartbeats 4000000 in
theorem rread_sum (A : Option Addr) (n c : Nat) (k : Int) (zs : List Int) (w : World) (hr : IntRow w .u8 A n c (k :: zs)) (hn : n ≤ 64) (h1 : 1 ≤ k) (h2 : k ≤ 6) (hne : n = lenF (whats k) + 3) (hop : opens (k :: zs) = false) : Calls Try.prog 16 #[.slice A n c] w (Told (readVal (none, 4)) w) := by
  have hl := hr.len_eq
  have hn0 : 0 < n := by simp at hl; omega
  have hsum := fun W (hW : Below w.heap.size w W) => rsum_any A n c (k :: zs) W (hr.below hW)
  have hint := opens_int hr.wf (by omega)
  rw [hop] at hint
  have hsl := (sumOf (k :: zs)).isLt
  obtain ⟨S, hS⟩ : ∃ S : Int, ((sumOf (k :: zs)).toNat : Int) = S := ⟨_, rfl⟩
  have s1 : 0 ≤ S := by omega
  have s2 : S ≤ 65535 := by omega
  rw [hS] at hint
  simp only [hS] at hsum
  have E3 : Hid ((S != 0) = true) := Lib.hid hint
  clear hint hS hsl hop
  obtain ⟨b, off, rfl, hb, hc⟩ := hr.cell hn0
  have c0 := hc 0 hn0
  simp only [Nat.add_zero, List.getD_cons_zero] at c0
  obtain ⟨l, hll⟩ : ∃ l, (Fr.of k []).fields = l := ⟨_, rfl⟩
  have hlw : l.map (·.1) = whats k := by rw [← hll, Fr.fields_whats, Fr.of_kind h1 h2]
  have hf := fun W (hd : Docs w k W) => blank_fields h1 h2 hll W hd
  have hlen := lenF_le k
  have hlen1 : 1 ≤ lenF (whats k) := by rcases kind_cases h1 h2 with rfl | rfl | rfl | rfl | rfl | rfl <;> decide
  have hm : l.length ≤ 8 := by rw [← hll]; rcases kind_cases h1 h2 with rfl | rfl | rfl | rfl | rfl | rfl <;> decide
  rw [← hlw] at hne hlen hlen1
  obtain ⟨m, hmm⟩ : ∃ m, l.length = m := ⟨_, rfl⟩
  obtain ⟨L, hL⟩ : ∃ L, lenF (l.map (·.1)) = L := ⟨_, rfl⟩
  rw [hmm] at hm
  rw [hL] at hne hlen hlen1
  simp only [hmm] at hf
  have HM := Lib.hid hmm
  have HL := Lib.hid hL
  have HZ := Lib.hid plain_size2
  have E1 : Hid (((3 : Int) + (L : Int) == 3) = false) := Lib.hid (by simp; omega)
  have E2 : Hid (((3 : Int) + (L : Int) != (n : Int)) = false) := Lib.hid (by simp; omega)
  clear hc hr hl hmm hL hlw hll
  obtain rfl := hne
  go_enter Try.func16, Try.ntmps16
  have c1 := World.cell?_alloc_lt w (.cells #[.int .i64 0, .int .i64 0, .int .i64 0, .int .i64 0, .int .u16 0, .int .u16 0, .int .i64 0, .int .i64 0, .int .i64 0, .int .i64 0, .int .i64 0, .int .i64 0, .int .i64 0, .int .i64 0] 24) ⟨b, off, none⟩ hb
  go_wp2_with (go_at_call 28; refine (hf _ (Docs.start w k)).mono ?_; rintro e w1 ⟨g, rfl, ho1, hb1⟩; have HO1 := Lib.hid ho1; clear ho1)
  clear c1 c0
  go_loopw [5, 33] (fun t i wr => ∃ j : Nat, j ≤ m ∧ i = .int .i64 j ∧ t = .int .i64 (3 + (lenF ((l.take j).map (·.1)) : Int)) ∧ Over w k g l wr) (fun _ i _ => m - (intOf i).toNat)
  case atStart => exact ⟨0, Nat.zero_le _, rfl, rfl, HO1.out⟩
  case round =>
    obtain ⟨j, hj, rfl, rfl, hov⟩ := hrel
    have HO := Lib.hid hov
    clear hov HO1
    have hle : lenF ((l.take j).map (·.1)) ≤ L := by rw [← HL.out]; exact lenF_take_le l j
    by_cases hlt : j < m
    · have hjl : j < l.length := by rw [HM.out]; exact hlt
      obtain ⟨c0, c1, c2⟩ := HO.out.cells hjl
      have hT := Lib.hid (lenF_take hjl)
      have hz := size_le l[j].1
      obtain ⟨X, hX⟩ : ∃ X, l[j] = X := ⟨_, rfl⟩
      rw [hX] at c0 c1 c2 hT hz
      clear hX
      obtain ⟨T, hTT⟩ : ∃ T, lenF ((l.take j).map (·.1)) = T := ⟨_, rfl⟩
      rw [hTT] at hT hle
      rw [hTT]
      clear hTT
      obtain ⟨Z, hZ⟩ : ∃ Z, sizeF X.1 = Z := ⟨_, rfl⟩
      rw [hZ] at c0 hT hz
      clear hZ
      go_wp2
      go_roundw
      case rel => exact ⟨j + 1, by omega, by go_num, by rw [hT.out]; go_num, HO.out.alloc _⟩
      case measure => simp [intOf]; omega
    · have hT : Hid (lenF ((l.take j).map (·.1)) = L) := by
        rw [List.take_of_length_le (by have := HM.out; omega)]
        exact HL
      have e1 := E1.out
      have e2 := E2.out
      have e3 := E3.out
      rw [hT.out]
      go_upto_region 15 with (go_at_call 19; refine (hsum _ HO.out.docs.below).mono ?_; rintro e w' ⟨rfl, rfl⟩)
      refine wp_region_lit ?_
      refine list_yield (.agg Z14) rfl (by go_simp) ?_
      refine wpList_store_row rfl 24 (.tmp 2) (.tmp 54) rfl w.heap.size Z14 rfl rfl 24 Z14 HO.out.docs.ans HZ.out rfl z14_one ?_
      go_wp2
      exact read_end .zero _ rfl rfl rfl rfl (HO.out.docs.put _).1 (HO.out.docs.put _).2
end Go.Proofs.Ytbdlpkkgfhknkaa
