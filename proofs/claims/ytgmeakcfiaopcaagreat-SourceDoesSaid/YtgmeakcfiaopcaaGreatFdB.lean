/- The document's: can a word be? -/
import Derived.Test.YtgmeakcfiaopcaaGreatFdA
import Derived.LoopTactic
namespace Go.Proofs.YtgmeakcfiaopcaaGreat
open Go.RowKit
set_option linter.unusedVariables false
set_option linter.unusedSimpArgs false

def rowsW (a b c d h t : Int) : List Value := [.int .i64 1, .int .i64 a, .int .i64 63, .int .i64 1, .int .i64 b, .int .i64 63, .int .i64 2, .int .i64 c, .int .i64 65535, .int .i64 2, .int .i64 d, .int .i64 65535, .int .i64 1, .int .i64 h, .int .i64 63, .int .i64 8, .int .i64 t, .int .i64 1125899906842624]
set_option maxRecDepth 100000 in
set_option maxHeartbeats 2000000 in
theorem wfields_any (a b c d h t : Int) (w : World) (hc : F16 c) (hd : F16 d) : Calls Tryz.prog 66 #[.agg #[.int .i64 1, .int .i64 a, .int .i64 0, .int .i64 b, .int .u16 c, .int .u16 d, .int .i64 h, .int .i64 t, .int .i64 0, .int .i64 0, .int .i64 0, .int .i64 0, .int .i64 0, .int .i64 0]] w
    fun e w' => ∃ g, e = .returned (.slice (some ⟨g, 0, none⟩) 6 6) ∧ Holds w' g 132 (rowsW a b c d h t).toArray ∧ Below w.heap.size w w' := by
  obtain ⟨c0, c1⟩ := hc
  obtain ⟨d0, d1⟩ := hd
  go_enter Tryz.func66, Tryz.ntmps66
  go_wp2
  go_ret
  refine ⟨w.heap.size + 2, rfl, ?_, (((Below.refl _ _).alloc (Nat.le_refl _) _).alloc (by simp) _).alloc (by simp; omega) _⟩
  have := Holds.new ((w.alloc (.cells (#[.int .i64 1, .int .i64 a, .int .i64 0, .int .i64 b, .int .u16 c, .int .u16 d, .int .i64 h, .int .i64 t, .int .i64 0, .int .i64 0, .int .i64 0, .int .i64 0, .int .i64 0, .int .i64 0]) 57)).alloc (.cells #[.int .i64 1, .int .i64 a, .int .i64 63] 132)) 132 (rowsW a b c d h t).toArray
  rw [size_alloc, size_alloc] at this
  exact this
theorem rowsW_at {a b c d h t : Int} (ha : 0 ≤ a ∧ a ≤ 63) (hb : 0 ≤ b ∧ b ≤ 63) (hc : F16 c) (hd : F16 d) (hh : 0 ≤ h ∧ h ≤ 63) (ht : Fits t) {k : Nat} (hk : k < 6) :
    ∃ Z N M : Int, (rowsW a b c d h t)[k * 3]? = some (.int .i64 Z) ∧ (rowsW a b c d h t)[k * 3 + 1]? = some (.int .i64 N) ∧ (rowsW a b c d h t)[k * 3 + 2]? = some (.int .i64 M) ∧ Fits N ∧ (k < 5 ∧ 0 ≤ N ∧ N ≤ M ∨ k = 5 ∧ N = t ∧ M = 1125899906842624) := by
  have hk' : k = 0 ∨ k = 1 ∨ k = 2 ∨ k = 3 ∨ k = 4 ∨ k = 5 := by omega
  obtain ⟨c0, c1⟩ := hc
  obtain ⟨d0, d1⟩ := hd
  rcases hk' with rfl | rfl | rfl | rfl | rfl | rfl
  · exact ⟨_, _, _, rfl, rfl, rfl, ⟨by omega, by omega⟩, .inl ⟨by omega, ha⟩⟩
  · exact ⟨_, _, _, rfl, rfl, rfl, ⟨by omega, by omega⟩, .inl ⟨by omega, hb⟩⟩
  · exact ⟨_, _, _, rfl, rfl, rfl, ⟨by omega, by omega⟩, .inl ⟨by omega, c0, by omega⟩⟩
  · exact ⟨_, _, _, rfl, rfl, rfl, ⟨by omega, by omega⟩, .inl ⟨by omega, d0, by omega⟩⟩
  · exact ⟨_, _, _, rfl, rfl, rfl, ⟨by omega, by omega⟩, .inl ⟨by omega, hh⟩⟩
  · exact ⟨_, _, _, rfl, rfl, rfl, ht, .inr ⟨rfl, rfl, rfl⟩⟩
/-- While a row of fields is gone over. -/
structure Goes6 (w : World) (g : Nat) (l : List Value) (wr : World) : Prop where
  below : Below w.heap.size w wr
  row : Holds wr g 132 l.toArray
theorem Goes6.alloc {w wr : World} {g : Nat} {l : List Value} (h : Goes6 w g l wr) (o : Obj) : Goes6 w g l (wr.alloc o) := ⟨h.below.alloc h.below.size o, h.row.alloc o⟩
set_option maxHeartbeats 2000000 in
theorem rwgood_any (w : World) (a b c d h t : Int) (ha : 0 ≤ a ∧ a ≤ 63) (hb : 0 ≤ b ∧ b ≤ 63) (hc : F16 c) (hd : F16 d) (hh : 0 ≤ h ∧ h ≤ 63) (ht : Fits t) :
    Calls Tryz.prog 49 #[.agg #[.int .i64 1, .int .i64 a, .int .i64 0, .int .i64 b, .int .u16 c, .int .u16 d, .int .i64 h, .int .i64 t, .int .i64 0, .int .i64 0, .int .i64 0, .int .i64 0, .int .i64 0, .int .i64 0]] w fun e w' => e = .returned (.bool (timeB t)) ∧ Below w.heap.size w w' := by
  have hfl' : ∀ W : World, Below w.heap.size w W → Calls Tryz.prog 66 #[.agg #[.int .i64 1, .int .i64 a, .int .i64 0, .int .i64 b, .int .u16 c, .int .u16 d, .int .i64 h, .int .i64 t, .int .i64 0, .int .i64 0, .int .i64 0, .int .i64 0, .int .i64 0, .int .i64 0]] W fun e w' =>
      ∃ g, e = .returned (.slice (some ⟨g, 0, none⟩) 6 6) ∧ Goes6 w g (rowsW a b c d h t) w' := fun W hW => (wfields_any a b c d h t W hc hd).mono fun e w' ⟨g, he, hg, hb⟩ => ⟨g, he, hW.trans (hb.mono hW.size), hg⟩
  have HAt := Lib.hid (fun k hk => rowsW_at ha hb hc hd hh ht (k := k) hk)
  clear ha hb hc hd hh ht
  obtain ⟨l, hl⟩ : ∃ l, rowsW a b c d h t = l := ⟨_, rfl⟩
  simp only [hl] at hfl' HAt
  clear hl
  go_enter Tryz.func49, Tryz.ntmps49
  go_wp2_with (go_at_call 66; refine (hfl' _ ((Below.refl _ _).alloc (Nat.le_refl _) _)).mono ?_; rintro e w1 ⟨g, rfl, hgo1⟩)
  go_loopw [10] (fun i wr => ∃ k : Nat, k ≤ 6 ∧ i = .int .i64 k ∧ (k = 6 → timeB t = true) ∧ Goes6 w g l wr) (fun i _ => 6 - (intOf i).toNat)
  case atStart => exact ⟨0, Nat.zero_le _, rfl, fun e => by omega, hgo1⟩
  case round =>
    obtain ⟨k, hk, rfl, hall, hgo⟩ := hrel
    have HA := Lib.hid hall
    have HG := Lib.hid hgo
    clear hall hgo hgo1
    by_cases hlt : k < 6
    · obtain ⟨Z, N, M, k0, k1, k2, ⟨n1, n2⟩, hcase⟩ := HAt.out k hlt
      have c0 : wr.cell? ⟨g, k * 3, none⟩ = some (.int .i64 Z) := by rw [HG.out.row.cell, List.getElem?_toArray]; exact k0
      have c1 : wr.cell? ⟨g, k * 3 + 1, none⟩ = some (.int .i64 N) := by rw [HG.out.row.cell, List.getElem?_toArray]; exact k1
      have c2 : wr.cell? ⟨g, k * 3 + 2, none⟩ = some (.int .i64 M) := by rw [HG.out.row.cell, List.getElem?_toArray]; exact k2
      have HC := Lib.hid hcase
      clear k0 k1 k2 hcase
      have h3 : N < 0 ∨ (0 ≤ N ∧ M < N) ∨ (0 ≤ N ∧ N ≤ M) := by omega
      rcases h3 with h0 | ⟨h0, h1⟩ | ⟨h0, h1⟩
      · go_wp2
        go_ret
        refine ⟨ret_bool ?_, (HG.out.alloc _).below⟩
        rcases HC.out with ⟨_, _, _⟩ | ⟨_, e1, e2⟩
        · omega
        · exact (decide_eq_false (by omega)).symm
      · go_wp2
        go_ret
        refine ⟨ret_bool ?_, (HG.out.alloc _).below⟩
        rcases HC.out with ⟨_, _, _⟩ | ⟨_, e1, e2⟩
        · omega
        · exact (decide_eq_false (by omega)).symm
      · go_wp2
        go_roundw
        case rel => exact ⟨k + 1, by omega, by go_num, fun e => by
          rcases HC.out with ⟨_, _, _⟩ | ⟨_, e1, e2⟩
          · omega
          · exact decide_eq_true (by omega), HG.out.alloc _⟩
        case measure => simp [intOf]; omega
    · obtain rfl : k = 6 := by omega
      go_wp2
      go_ret
      exact ⟨ret_bool (HA.out (by trivial)).symm, HG.out.below⟩
end Go.Proofs.YtgmeakcfiaopcaaGreat
