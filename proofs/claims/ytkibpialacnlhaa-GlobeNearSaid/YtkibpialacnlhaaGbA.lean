/- The laws' tables: what is there of a list of entries, added one by one; the document's list beside it. -/
import Derived.Test.YtkibpialacnlhaaTbS
import Derived.Test.YtkibpialacnlhaaGbN
namespace Go.Proofs.Ytkibpialacnlhaa
open Go.RowKit
set_option linter.unusedVariables false
set_option linter.unusedSimpArgs false

open Classical in
noncomputable def stepL (L : List Ent) (e : Ent) : List Ent := if CanE e ∧ Later L e then pushL L e else L
noncomputable def fillL (L : List Ent) : List Ent := L.foldl stepL []
theorem step_L {L M : List Ent} {e : Ent} {v : Int} (h : Step L e M v) : stepL L e = M := by
  unfold stepL
  rcases h with ⟨hc, rfl, _⟩ | ⟨_, hl, rfl, _⟩ | ⟨hc, hl, rfl, _⟩
  · exact if_neg fun k => hc k.1
  · exact if_neg fun k => hl k.2
  · exact if_pos ⟨hc, hl⟩
theorem fillL_nil : fillL [] = [] := rfl
theorem fillL_snoc (L : List Ent) (e : Ent) : fillL (L ++ [e]) = stepL (fillL L) e := by
  unfold fillL
  rw [List.foldl_append]
  rfl
theorem pushL_mem {L : List Ent} {e x : Ent} (h : x ∈ pushL L e) : x ∈ L ∨ x = e := by
  unfold pushL at h
  split at h
  · rcases List.mem_append.1 h with h | h
    · exact .inl (List.mem_of_mem_tail h)
    · exact .inr (by simpa using h)
  · rcases List.mem_append.1 h with h | h
    · exact .inl h
    · exact .inr (by simpa using h)
/-- What a law's table has: entries that can be, no more than eight. -/
structure Ents8 (L : List Ent) : Prop where
  le : L.length ≤ 8
  can : ∀ e ∈ L, CanE e
theorem ents8_nil : Ents8 [] := ⟨Nat.zero_le _, fun e h => by cases h⟩
theorem Ents8.push {L : List Ent} {e : Ent} (h : Ents8 L) (hc : CanE e) : Ents8 (pushL L e) :=
  ⟨pushL_len h.le e, fun x hx => by
    rcases pushL_mem hx with hx | rfl
    · exact h.can x hx
    · exact hc⟩
theorem Ents8.step {L : List Ent} {e : Ent} (h : Ents8 L) : Ents8 (stepL L e) := by
  unfold stepL
  split
  · rename_i k
    exact h.push k.1
  · exact h
theorem fill8 (L : List Ent) : Ents8 (fillL L) := by
  have key : ∀ (L M : List Ent), Ents8 M → Ents8 (L.foldl stepL M) := fun L => by
    induction L with
    | nil => exact fun M h => h
    | cons x L ih => exact fun M h => ih _ h.step
  exact key L [] ents8_nil
/-- A call answers a table, and the document's list of what it has. -/
def GaveT (w : World) (M : List Ent) (e : Ending) (w' : World) : Prop :=
  ∃ z A c, e = .returned (.tuple #[.pointer (some ⟨z, 0, none⟩), .slice A M.length c]) ∧ TD w z M A c w'
set_option maxHeartbeats 2000000 in
theorem filled_any (w : World) (B : Nat) (A : Option Addr) (n c : Nat) (L : List Ent) (h : TRow w B A n c L) (hn : n ≤ 100) :
    Calls Try.prog 9 #[.slice A n c] w (GaveT w (fillL L)) := by
  have H := Lib.hid h
  have HL := Lib.hid h.len
  have hcap := h.cap_le
  have T0 := tb_new w
  have b0 := below_alloc w (.cells #[.int .i64 0, .int .i64 0, .int .i64 0, .int .i64 0, .int .i64 0, .int .i64 0, .int .i64 0, .int .i64 0, .int .i64 0, .int .i64 0, .int .i64 0, .int .i64 0, .int .i64 0, .int .i64 0, .int .i64 0, .int .i64 0, .int .i64 0, .int .i64 0, .int .i64 0, .int .i64 0, .int .i64 0, .int .i64 0, .int .i64 0, .int .i64 0, .int .i64 0] 53)
  have HT0 := Lib.hid (⟨T0, trow_none _ _, b0, Nat.le_refl _⟩ : TD w w.heap.size [] none 0 _)
  clear h T0 b0
  go_enter Try.func9, Try.ntmps9
  go_wp2
  go_loopw [5, 12] (fun v i wr => ∃ (k : Nat) (A' : Option Addr) (c' : Nat), k ≤ n ∧ i = .int .i64 (k : Int) ∧ v = .slice A' (fillL (L.take k)).length c' ∧ TD w w.heap.size (fillL (L.take k)) A' c' wr) (fun _ i _ => n - (intOf i).toNat)
  case atStart => exact ⟨0, none, 0, Nat.zero_le _, rfl, by rw [List.take_zero]; rfl, by rw [List.take_zero]; exact HT0.out⟩
  case round =>
    obtain ⟨k, A', c', hk, rfl, rfl, ht⟩ := hrel
    have HT := Lib.hid ht
    clear ht
    by_cases hlt : k < n
    · obtain ⟨x, hx⟩ : ∃ x, L[k]? = some x := ⟨_, List.getElem?_eq_getElem (by rw [HL.out]; exact hlt)⟩
      obtain ⟨b, off, rfl, q0, q1, q2⟩ := (H.out.below HT.out.below).at hx
      obtain ⟨M, v, hs⟩ := step_is (fillL (L.take k)) x
      have hnext : fillL (L.take (k + 1)) = M := by
        have hl := (List.getElem?_eq_some_iff.1 hx).1
        rw [List.take_succ_eq_append_getElem hl]
        rw [List.getElem?_eq_getElem hl] at hx
        cases hx
        rw [fillL_snoc]
        exact step_L hs
      obtain ⟨x1, x2, x3⟩ := x
      dsimp only at q0 q1 q2
      have h8 := (fill8 (L.take k)).le
      obtain ⟨M0, hM0⟩ : ∃ M0, fillL (L.take k) = M0 := ⟨_, rfl⟩
      rw [hM0] at hs HT h8
      simp only [hM0]
      have HX := Lib.hid hnext
      have HS := Lib.hid hs
      have H8 := Lib.hid h8
      have ewk := IntWalk.i64_in ((k : Int) + 1) (by omega)
      have hal := below_alloc wr (.cells #[.int .i64 x1, .int .i64 x2, .int .i64 x3] 50)
      have HT1 := Lib.hid (HT.out.onto hal)
      have HN := Lib.hid (Holds.new wr 50 #[.int .i64 x1, .int .i64 x2, .int .i64 x3])
      have hz : w.heap.size < wr.heap.size := by
        have := HT.out.tab.lt
        exact this
      have HZ := Lib.hid hz
      have hadd := add_step x1 x2 x3 _ w.heap.size 0 53 [] [] M0 M v HT1.out.tab HS.out
      clear hx hal hs hnext h8 hM0 hz
      go_wp2_with (first
        | (go_at_call 19; refine hadd.mono ?_; rintro e w2 ⟨rfl, ht2, hc2⟩; have HN2 := Lib.hid (HN.out.chg hc2 (by have := HZ.out; omega)); have n0 := HN2.out.cell 0; have n1 := HN2.out.cell 1; have n2 := HN2.out.cell 2; have HD2 := Lib.hid (HT1.out.doc.chg hc2 (fun k hk => by omega)); have HB2 := Lib.hid (tb_below HT1.out.tab HT1.out.below hc2 (Nat.le_refl _)); have HTb2 := Lib.hid ht2; have hradd := radd_step x1 x2 x3 w2 (w.heap.size + 1) A' c' M0 M v HD2.out H8.out (by have := HZ.out; have := hc2.size; simp at this; omega) HS.out; clear ht2 hc2 hadd)
        | (go_at_call 21; refine hradd.mono ?_; rintro e w3 ⟨A3, c3, rfl, hr3, hb3⟩; have HT3 := Lib.hid (⟨HTb2.out.below hb3, hr3, HB2.out.trans (hb3.mono HB2.out.size), Nat.le_refl _⟩ : TD w w.heap.size M A3 c3 w3); clear hr3 hb3))
      go_roundw
      case rel => exact ⟨k + 1, A3, c3, by omega, by go_num, by rw [HX.out], by rw [HX.out]; exact HT3.out⟩
      case measure => simp [intOf]; omega
    · have htk : L.take k = L := List.take_of_length_le (by rw [HL.out]; omega)
      rw [htk] at HT
      simp only [htk]
      have l1 : ¬ (k : Int) < n := by omega
      clear htk
      go_wp2
      go_ret2
      exact ⟨_, _, _, rfl, HT.out⟩
end Go.Proofs.Ytkibpialacnlhaa
