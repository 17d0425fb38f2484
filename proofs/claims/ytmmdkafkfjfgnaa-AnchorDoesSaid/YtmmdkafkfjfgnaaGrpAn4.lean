/- Texts of this seat, one behind the other. -/
import Derived.Test.YtmmdkafkfjfgnaaGrpAn1
import Derived.Test.YtmmdkafkfjfgnaaGrpAn2
import Derived.Test.YtmmdkafkfjfgnaaGrpAn3
import Derived.Laws.StructEq
import Derived.LoopTactic
/- Stage 23: what the laws' own helpers answer: of, made, alive; structs compared; books of a law's own. -/
namespace Go.Proofs.Ytmmdkafkfjfgnaa
open Go.ChangeShapes Go.WideShapes Go.ChangeAt Go.WideElems Go.RowKit Go.Shelf
set_option linter.unusedVariables false
set_option linter.unusedSimpArgs false

section
variable (f q r b g t x y : Int) (W : World)
theorem an_neq_same : (binOp .neq 31 (.agg #[.int .i64 f, .int .u16 q, .int .i64 r, .int .u16 b, .int .i64 g, .int .i64 t]) (.agg #[.int .i64 f, .int .u16 q, .int .i64 r, .int .u16 b, .int .i64 g, .int .i64 t])).run Try.prog W = .ok (.bool false) W := by
  go_simp
theorem mo_eq_same : (binOp .eql 38 (.agg #[.int .i64 x, .int .i64 y]) (.agg #[.int .i64 x, .int .i64 y])).run Try.prog W = .ok (.bool true) W := by
  go_simp
end
set_option maxHeartbeats 4000000 in
set_option maxRecDepth 100000 in
theorem lof_any (k f tz r b q ho ti le se go ba g t : Int) (w : World) : Calls Try.prog 14 #[.agg #[.int .i64 k, .int .i64 f, .int .i64 tz, .int .i64 r, .int .u16 b, .int .u16 q, .int .i64 ho, .int .i64 ti, .int .i64 le, .int .i64 se, .int .i64 go, .int .i64 ba, .int .i64 g, .int .i64 t]] w fun e w' => e = .returned (.agg #[.int .i64 f, .int .u16 q, .int .i64 r, .int .u16 b, .int .i64 g, .int .i64 t]) ∧ Below w.heap.size w w' := by
  go_enter Try.func14, Try.ntmps14
  go_wp2
  have hb1 := below_alloc w (.cells #[.int .i64 k, .int .i64 f, .int .i64 tz, .int .i64 r, .int .u16 b, .int .u16 q, .int .i64 ho, .int .i64 ti, .int .i64 le, .int .i64 se, .int .i64 go, .int .i64 ba, .int .i64 g, .int .i64 t] 54)
  refine bodyPost_ret (results_cell_row rfl _ _ (w.heap.size + 1) 31 #[.int .i64 f, .int .u16 q, .int .i64 r, .int .u16 b, .int .i64 g, .int .i64 t] (0, 0) _ rfl (by have := heap_alloc_new (w.alloc (.cells #[.int .i64 k, .int .i64 f, .int .i64 tz, .int .i64 r, .int .u16 b, .int .u16 q, .int .i64 ho, .int .i64 ti, .int .i64 le, .int .i64 se, .int .i64 go, .int .i64 ba, .int .i64 g, .int .i64 t] 54)) (.cells #[.int .i64 f, .int .u16 q, .int .i64 r, .int .u16 b, .int .i64 g, .int .i64 t] 31); simpa using this) Try.underlying31 rfl an_size) rfl ?_
  exact ⟨rfl, hb1.alloc hb1.size _⟩
/-- A book of a law's own. -/
structure Ab (w W : World) (x : Nat) (s : BS) : Prop where
  book : Bk W x s
  below : Below w.heap.size w W
  new : w.heap.size ≤ x
section
variable {w W W' : World} {x y : Nat} {s s' u : BS}
theorem Ab.next (h : Ab w W x s) (hg : BGoes x s' W W') : Ab w W' x s' := ⟨hg.1, Below.chg h.below hg.2 h.below.size (fun k e => by have := h.new; omega), h.new⟩
theorem Ab.more (h : Ab w W x s) (hb : Below W.heap.size W W') : Ab w W' x s := ⟨h.book.below hb, h.below.trans (hb.mono h.below.size), h.new⟩
theorem Ab.other (h : Ab w W x s) {z : Nat} {T : TypeId} {C : Array Value} (hz : Holds W z T C) (hT : 33 ≠ T) (hg : BGoes x s' W W') : Holds W' z T C := hz.chg hg.2 (fun e => by subst e; exact absurd rfl (Holds.apart h.book hz hT))
theorem Ab.start (w : World) (h : Below w.heap.size w W) : Ab w (W.alloc (.cells (bk7 .none).toArray 33)) W.heap.size .none := ⟨Holds.new _ _ _, h.trans ((below_alloc _ _).mono h.size), h.size⟩
/-- Both books side by side. -/
structure Ad (w W : World) (x y : Nat) (s : BS) : Prop where
  one : Ab w W x s
  doc : Rb W y s
  newd : w.heap.size ≤ y
  inv : BInv s
theorem Ad.more (h : Ad w W x y s) (hb : Below W.heap.size W W') : Ad w W' x y s := ⟨h.one.more hb, h.doc.below hb, h.newd, h.inv⟩
theorem Ad.ne (h : Ad w W x y s) : x ≠ y := Holds.apart h.one.book h.doc (by decide)
end
/-- While the program's book has gone a step, and the document's hasn't. -/
structure Ah (w W : World) (x y : Nat) (s s' : BS) : Prop where
  one : Ab w W x s'
  doc : Rb W y s
  newd : w.heap.size ≤ y
  inv : BInv s
  ne : x ≠ y
section
variable {w W W' : World} {x y : Nat} {s s' : BS}
theorem Ad.half (h : Ad w W x y s) (hg : BGoes x s' W W') : Ah w W' x y s s' := ⟨h.one.next hg, h.doc.chg hg.2 (fun e => h.ne e.symm), h.newd, h.inv, h.ne⟩
theorem Ah.more (h : Ah w W x y s s') (hb : Below W.heap.size W W') : Ah w W' x y s s' := ⟨h.one.more hb, h.doc.below hb, h.newd, h.inv, h.ne⟩
theorem Ah.whole (h : Ah w W x y s s') (hi : BInv s') (hg : RGoes y s' W W') : Ad w W' x y s' :=
  ⟨⟨h.one.book.chg hg.2 (fun e => h.ne e), Below.chg h.one.below hg.2 h.one.below.size (fun k e => by have := h.newd; omega), h.one.new⟩, hg.1, h.newd, hi⟩
end
theorem ex_made : anMade .none 3 0 0 5000 100 = true := by decide
theorem ex_one : anTai ⟨true, 3, 1, 0, 0, 5000, 100⟩ 0 0 7250 = (102, 250, 0) := by decide
theorem ex_two : anTai ⟨true, 3, 1, 0, 0, 5000, 100⟩ 0 0 4999 = (99, 999, 0) := by decide
theorem ex_inv : BInv ⟨true, 3, 1, 0, 0, 5000, 100⟩ := by constructor <;> decide
set_option maxHeartbeats 4000000 in
set_option maxRecDepth 100000 in
theorem alive_yes (w : World) : Calls Try.prog 6 #[] w fun e w' => e = .returned (.bool true) ∧ Below w.heap.size w w' := by
  have HS := Lib.hid (Ab.start w (Below.refl w.heap.size w))
  have HM : Hid (Calls Try.prog 11 #[.pointer (some ⟨w.heap.size, 0, none⟩), .int .i64 3, .agg #[.int .i64 5000, .int .i64 0, .int .i64 0, .int .u16 0, .int .i64 0], .int .i64 100] (w.alloc (.cells (bk7 .none).toArray 33)) fun e w' => e = .returned (.tuple #[.agg #[.int .i64 3, .int .u16 1, .int .i64 0, .int .u16 0, .int .i64 5000, .int .i64 100], .int .i64 0]) ∧ BGoes w.heap.size ⟨true, 3, 1, 0, 0, 5000, 100⟩ (w.alloc (.cells (bk7 .none).toArray 33)) w') := Lib.hid (amake_yes _ _ _ HS.out.book 3 5000 0 0 0 0 100 ⟨by decide, by decide⟩ ⟨by decide, by decide⟩ ⟨by decide, by decide⟩ ⟨by decide, by decide⟩ ⟨by decide, by decide⟩ ex_made)
  have HT1 : Hid (∀ W, Ab w W w.heap.size ⟨true, 3, 1, 0, 0, 5000, 100⟩ → Calls Try.prog 10 #[.pointer (some ⟨w.heap.size, 0, none⟩), .agg #[.int .i64 0, .int .u16 0], .int .i64 7250] W fun e w' => e = .returned (.tuple #[.agg #[.int .i64 102, .int .i64 250], .int .i64 0]) ∧ Below W.heap.size W w') := Lib.hid (fun W hW => by have := atai_any W w.heap.size ⟨true, 3, 1, 0, 0, 5000, 100⟩ hW.book ex_inv 0 0 7250; rw [ex_one] at this; exact this)
  have HT2 : Hid (∀ W, Ab w W w.heap.size ⟨true, 3, 1, 0, 0, 5000, 100⟩ → Calls Try.prog 10 #[.pointer (some ⟨w.heap.size, 0, none⟩), .agg #[.int .i64 0, .int .u16 0], .int .i64 4999] W fun e w' => e = .returned (.tuple #[.agg #[.int .i64 99, .int .i64 999], .int .i64 0]) ∧ Below W.heap.size W w') := Lib.hid (fun W hW => by have := atai_any W w.heap.size ⟨true, 3, 1, 0, 0, 5000, 100⟩ hW.book ex_inv 0 0 4999; rw [ex_two] at this; exact this)
  go_enter Try.func6, Try.ntmps6
  go_wp2_with (first
    | (go_at_call 11; refine (HM.out).mono ?_; rintro e w1 ⟨rfl, hg⟩; have HA := Lib.hid (HS.out.next hg); clear hg; have HZ := Lib.hid (Box.start w1 31 #[.int .i64 3, .int .u16 1, .int .i64 0, .int .u16 0, .int .i64 5000, .int .i64 100]); replace HA := Lib.hid (HA.out.more HZ.out.below))
    | (go_at_call 10; with_reducible refine (HT1.out _ HA.out).mono ?_; rintro e w2 ⟨rfl, hb⟩; have HP := Lib.hid (Box.start w2 38 #[.int .i64 102, .int .i64 250]); have hb2 := hb.trans (HP.out.below.mono hb.size); replace HA := Lib.hid (HA.out.more hb2); replace HZ := Lib.hid (HZ.out.next hb2); (try replace HP := Lib.hid (HP.out.next hb2)); clear hb hb2; have z0 := HZ.out.holds.cell 0; have z1 := HZ.out.holds.cell 1; have p0 := HP.out.holds.cell 0; have p1 := HP.out.holds.cell 1; (try have q0 := HQ.out.holds.cell 0); (try have q1 := HQ.out.holds.cell 1))
    | (go_at_call 10; with_reducible refine (HT2.out _ HA.out).mono ?_; rintro e w3 ⟨rfl, hb⟩; have HQ := Lib.hid (Box.start w3 38 #[.int .i64 99, .int .i64 999]); have hb2 := hb.trans (HQ.out.below.mono hb.size); replace HA := Lib.hid (HA.out.more hb2); replace HZ := Lib.hid (HZ.out.next hb2); (try replace HP := Lib.hid (HP.out.next hb2)); clear hb hb2; have z0 := HZ.out.holds.cell 0; have z1 := HZ.out.holds.cell 1; have p0 := HP.out.holds.cell 0; have p1 := HP.out.holds.cell 1; (try have q0 := HQ.out.holds.cell 0); (try have q1 := HQ.out.holds.cell 1)))
  go_ret
  exact ⟨rfl, HA.out.below⟩
attribute [local go_sem] Oper.semAt_some
/-- What a table that is made of what came in is. -/
def MadePost (st ah en : Int) (L : List (Int × Int)) (w : World) (e : Ending) (w' : World) : Prop :=
  ((faultT st ah en L = 0 ∧ ∃ q, e = .returned (.tuple #[.pointer (some ⟨q, 0, none⟩), .int .i64 0]) ∧ Rt w' w'.heap.size q ⟨st, ah, en, L⟩) ∨ (¬ faultT st ah en L = 0 ∧ e = .returned (.tuple #[.pointer none, .int .i64 (faultT st ah en L)]))) ∧ Below w.heap.size w w'
/-- What the law's own helper answers. -/
def MadeQ (st ah en : Int) (L : List (Int × Int)) (w : World) (e : Ending) (w' : World) : Prop :=
  ((faultT st ah en L = 0 ∧ ∃ q, e = .returned (.pointer (some ⟨q, 0, none⟩)) ∧ Rt w' w'.heap.size q ⟨st, ah, en, L⟩) ∨ (¬ faultT st ah en L = 0 ∧ e = .returned (.pointer none))) ∧ Below w.heap.size w w'
theorem made_of_make {st ah en : Int} {L : List (Int × Int)} {w w1 w' : World} {e : Ending} (hb : Below w.heap.size w w1) (h : MakePost st ah en L w1 e w') : MadePost st ah en L w e w' := by
  obtain ⟨h, hb'⟩ := h
  refine ⟨?_, hb.trans (hb'.mono hb.size)⟩
  rcases h with ⟨h0, q, he, ht⟩ | h
  · exact .inl ⟨h0, q, he, ht.rt (Nat.le_trans (fault_few h0).2.2.1 (by decide)) (Nat.le_refl _)⟩
  · exact .inr h
theorem lp_info : (Try.prog.info? 77).map (fun i => (i.zero, i.size, i.bytes)) = some (some (.agg #[.int .i64 0, .int .i64 0]), 2, 16) := by kernel_rfl
set_option maxHeartbeats 2000000 in
theorem made_any (w : World) (st ah en : Int) (A : Option Addr) (n c : Nat) (L : List (Int × Int)) (hr : PRow w A n c L) (hn : n ≤ 1000) :
    Calls Try.prog 7 #[.agg #[.int .i64 st, .int .i64 ah, .int .i64 en, .slice A n c]] w (MadeQ st ah en L w) := by
  have hnl := hr.len
  have hcap := hr.cap_le
  have hmax := hr.max
  unfold maxLen at hmax
  have HX0 := Lib.hid (Box.start w 24 #[.int .i64 st, .int .i64 ah, .int .i64 en, .slice A n c])
  have HR := Lib.hid hr
  have c0 := HX0.out.holds.cell 0
  have c1 := HX0.out.holds.cell 1
  have c2 := HX0.out.holds.cell 2
  have c3 := HX0.out.holds.cell 3
  have hs0 := size_alloc w (.cells #[.int .i64 st, .int .i64 ah, .int .i64 en, .slice A n c] 24)
  clear hr
  go_enter Try.func7, Try.ntmps7
  go_wp2
  obtain ⟨w0, hw0⟩ : ∃ w0, w.alloc (.cells #[.int .i64 st, .int .i64 ah, .int .i64 en, .slice A n c] 24) = w0 := ⟨_, rfl⟩
  simp only [hw0] at HX0 hs0 ⊢
  clear c0 c1 c2 c3
  have HX := Lib.hid (show Box w 24 #[.int .i64 st, .int .i64 ah, .int .i64 en, .slice A n c] w0 from HX0.out)
  clear HX0 hw0
  go_loopw [3, 11] (fun l i wr => ∃ (k : Nat) (Al : Option Addr) (cl : Nat), k ≤ n ∧ i = .int .i64 (k : Int) ∧ l = .slice Al k cl ∧ wr.ownsRow (w.heap.size + 1) 77 2 (.slice Al k cl) k (prs (L.take k)) ∧ Box w 24 #[.int .i64 st, .int .i64 ah, .int .i64 en, .slice A n c] wr) (fun _ i _ => n - (intOf i).toNat)
  case atStart => exact ⟨0, none, 0, Nat.zero_le _, rfl, rfl, by rw [List.take_zero]; exact World.ownsRow_nil _ _ _ _, HX.out⟩
  case round =>
    clear HX
    obtain ⟨k, Al, cl, hk, rfl, rfl, ho, hx⟩ := hrel
    have HX := Lib.hid hx
    have c3 := hx.holds.cell 3
    by_cases hlt : k < n
    · obtain ⟨e, he⟩ : ∃ x, L[k]? = some x := ⟨_, List.getElem?_eq_getElem (by omega)⟩
      have hnext : L.take (k + 1) = L.take k ++ [e] := by
        obtain ⟨hk', e'⟩ := List.getElem?_eq_some_iff.1 he
        rw [List.take_succ_eq_append_getElem hk', e']
      obtain ⟨x, y⟩ := e
      obtain ⟨b, off, rfl, hbl, q0, q1⟩ := (HR.out.below HX.out.below).at he
      have hltI : (k : Int) < (n : Int) := by omega
      have ew := IntWalk.i64_in ((k : Int) + 1) (by omega)
      have HNX := Lib.hid (show prs (L.take (k + 1)) = prs (L.take k) ++ [.int .i64 x, .int .i64 y] by rw [hnext, prs_append]; rfl)
      have HY := Lib.hid (Box.start wr 76 #[.int .i64 x, .int .i64 y])
      have x0 := HY.out.holds.cell 0
      have x1 := HY.out.holds.cell 1
      have HZ := Lib.hid (Box.start (wr.alloc (.cells #[.int .i64 x, .int .i64 y] 76)) 77 #[.int .i64 x, .int .i64 y])
      have HB2 := Lib.hid (HY.out.below.trans (HZ.out.below.mono HY.out.below.size))
      have HO := Lib.hid (own_keepK ho HB2.out)
      have HX2 := Lib.hid (HX.out.next HB2.out)
      have HZH := Lib.hid (show Holds ((wr.alloc (.cells #[.int .i64 x, .int .i64 y] 76)).alloc (.cells #[.int .i64 x, .int .i64 y] 77)) (wr.heap.size + 1) 77 #[.int .i64 x, .int .i64 y] by have := HZ.out.holds; rwa [size_alloc] at this)
      have HKN := Lib.hid (show k ≤ 100000 by omega)
      have HSZ := Lib.hid (Nat.le_trans (show w.heap.size + 1 ≤ wr.heap.size from HX.out.holds.lt) HB2.out.size)
      clear he hnext ho hx
      go_wp2_with (at_builtin; refine wpList_pushK rfl (.tmp 15) (.tmp 17) _ rfl (w.heap.size + 1) 77 _ 2 16 Try.underlying74 lp_info rfl (by decide) Al k cl (prs (L.take k)) rfl HO.out (wr.heap.size + 1) 77 [.int .i64 x, .int .i64 y] rfl HZH.out rfl (by intro u hu; simp at hu; rcases hu with rfl | rfl <;> rfl) HKN.out (by decide) HSZ.out ?_; intro A8 c8 w8 ho8 hb8; have HO8 := Lib.hid ho8; have HX8 := Lib.hid (show Box w 24 #[.int .i64 st, .int .i64 ah, .int .i64 en, .slice (some ⟨b, off, none⟩) n c] w8 from ⟨HX2.out.holds.below hb8 (Nat.lt_succ_self _), HX2.out.below.trans (hb8.mono (Nat.le_succ _))⟩); clear ho8 hb8)
      go_roundw
      case rel => exact ⟨k + 1, A8, c8, by omega, by go_num, rfl, by rw [HNX.out]; exact HO8.out, HX8.out⟩
      case measure => simp [intOf]; omega
    · have hkn : k = n := by omega
      subst hkn
      have hall : L.take k = L := List.take_of_length_le (by omega)
      rw [hall] at ho
      have HM := Lib.hid (make_any wr st ah en Al k cl L (PRow.of_own ho))
      have c0 := HX.out.holds.cell 0
      have c1 := HX.out.holds.cell 1
      have c2 := HX.out.holds.cell 2
      have hltI : decide ((k : Int) < (k : Int)) = false := decide_eq_false (by omega)
      have HMP := Lib.hid (fun e w' h => made_of_make (st := st) (ah := ah) (en := en) (L := L) (w' := w') (e := e) HX.out.below h)
      clear ho hall hx
      obtain ⟨F, hF⟩ : ∃ F, faultT st ah en L = F := ⟨_, rfl⟩
      have HFF := Lib.hid hF
      unfold MadePost at HMP
      rw [hF] at HMP
      by_cases h0 : F = 0
      · have HF := Lib.hid h0
        clear hF h0
        go_wp2_with (go_at_call 21; refine HM.out.mono ?_; intro e w9 hp; replace hp := HMP.out _ _ hp; obtain ⟨hp, hb9⟩ := hp; obtain ⟨_, q, rfl, ht⟩ := hp.resolve_right (fun h => h.1 HF.out); clear hp; have HT := Lib.hid ht; have HB := Lib.hid hb9; clear ht hb9)
        go_ret
        exact ⟨.inl ⟨HFF.out.trans HF.out, q, rfl, HT.out⟩, HB.out⟩
      · have HF := Lib.hid h0
        clear hF h0
        go_wp2_with (go_at_call 21; refine HM.out.mono ?_; intro e w9 hp; replace hp := HMP.out _ _ hp; obtain ⟨hp, hb9⟩ := hp; obtain ⟨_, rfl⟩ := hp.resolve_left (fun h => HF.out h.1); clear hp; have HB := Lib.hid hb9; clear hb9)
        go_ret
        exact ⟨.inr ⟨fun h => HF.out (HFF.out.symm.trans h), rfl⟩, HB.out⟩
end Go.Proofs.Ytmmdkafkfjfgnaa

/- Stage 23: what the laws' walks carry. -/
namespace Go.Proofs.Ytmmdkafkfjfgnaa
open Go.RowKit
set_option linter.unusedVariables false
set_option linter.unusedSimpArgs false

theorem cells14 {w : World} {x : Nat} {T : TypeId} {v0 v1 v2 v3 v4 v5 v6 v7 v8 v9 v10 v11 v12 v13 : Value} (h : Holds w x T #[v0, v1, v2, v3, v4, v5, v6, v7, v8, v9, v10, v11, v12, v13]) : w.cell? ⟨x, 0, none⟩ = some v0 ∧ w.cell? ⟨x, 1, none⟩ = some v1 ∧ w.cell? ⟨x, 2, none⟩ = some v2 ∧ w.cell? ⟨x, 3, none⟩ = some v3 ∧ w.cell? ⟨x, 4, none⟩ = some v4 ∧ w.cell? ⟨x, 5, none⟩ = some v5 ∧ w.cell? ⟨x, 6, none⟩ = some v6 ∧ w.cell? ⟨x, 7, none⟩ = some v7 ∧ w.cell? ⟨x, 8, none⟩ = some v8 ∧ w.cell? ⟨x, 9, none⟩ = some v9 ∧ w.cell? ⟨x, 10, none⟩ = some v10 ∧ w.cell? ⟨x, 11, none⟩ = some v11 ∧ w.cell? ⟨x, 12, none⟩ = some v12 ∧ w.cell? ⟨x, 13, none⟩ = some v13 :=
  ⟨h.cell 0, h.cell 1, h.cell 2, h.cell 3, h.cell 4, h.cell 5, h.cell 6, h.cell 7, h.cell 8, h.cell 9, h.cell 10, h.cell 11, h.cell 12, h.cell 13⟩
theorem six_of {w : World} {x : Nat} {T : TypeId} {a b c d e f : Value} (h : Holds w x T #[a, b, c, d, e, f]) : w.cell? ⟨x, 0, none⟩ = some a ∧ w.cell? ⟨x, 1, none⟩ = some b ∧ w.cell? ⟨x, 2, none⟩ = some c ∧ w.cell? ⟨x, 3, none⟩ = some d ∧ w.cell? ⟨x, 4, none⟩ = some e ∧ w.cell? ⟨x, 5, none⟩ = some f :=
  ⟨h.cell 0, h.cell 1, h.cell 2, h.cell 3, h.cell 4, h.cell 5⟩
theorem two_of {w : World} {x : Nat} {T : TypeId} {a b : Value} (h : Holds w x T #[a, b]) : w.cell? ⟨x, 0, none⟩ = some a ∧ w.cell? ⟨x, 1, none⟩ = some b := ⟨h.cell 0, h.cell 1⟩
section
variable {w W W' : World} {ta tb T : TypeId} {ca cb C : Array Value} {x z : Nat} {s s' : BS}
theorem cells18 {a b c d v0 v1 v2 v3 v4 v5 v6 v7 v8 v9 v10 v11 v12 v13 : Value} (h : Duo w ta tb #[a, b, c, d] #[v0, v1, v2, v3, v4, v5, v6, v7, v8, v9, v10, v11, v12, v13] W) : (W.cell? ⟨w.heap.size, 0, none⟩ = some a ∧ W.cell? ⟨w.heap.size, 1, none⟩ = some b ∧ W.cell? ⟨w.heap.size, 2, none⟩ = some c ∧ W.cell? ⟨w.heap.size, 3, none⟩ = some d) ∧ W.cell? ⟨w.heap.size + 1, 0, none⟩ = some v0 ∧ W.cell? ⟨w.heap.size + 1, 1, none⟩ = some v1 ∧ W.cell? ⟨w.heap.size + 1, 2, none⟩ = some v2 ∧ W.cell? ⟨w.heap.size + 1, 3, none⟩ = some v3 ∧ W.cell? ⟨w.heap.size + 1, 4, none⟩ = some v4 ∧ W.cell? ⟨w.heap.size + 1, 5, none⟩ = some v5 ∧ W.cell? ⟨w.heap.size + 1, 6, none⟩ = some v6 ∧ W.cell? ⟨w.heap.size + 1, 7, none⟩ = some v7 ∧ W.cell? ⟨w.heap.size + 1, 8, none⟩ = some v8 ∧ W.cell? ⟨w.heap.size + 1, 9, none⟩ = some v9 ∧ W.cell? ⟨w.heap.size + 1, 10, none⟩ = some v10 ∧ W.cell? ⟨w.heap.size + 1, 11, none⟩ = some v11 ∧ W.cell? ⟨w.heap.size + 1, 12, none⟩ = some v12 ∧ W.cell? ⟨w.heap.size + 1, 13, none⟩ = some v13 :=
  ⟨⟨h.one.cell 0, h.one.cell 1, h.one.cell 2, h.one.cell 3⟩, cells14 h.two⟩
theorem Duo.set1 (h : Duo w ta tb ca cb W) (i : Nat) (v : Value) : Duo w ta tb (ca.setIfInBounds i v) cb (W.setCell ⟨w.heap.size, i, none⟩ v) :=
  ⟨h.below.setCell (p := ⟨w.heap.size, i, none⟩) (Nat.le_refl _) _, h.one.put i v, h.two.far (by omega) _⟩
theorem Duo.set2 (h : Duo w ta tb ca cb W) (i : Nat) (v : Value) : Duo w ta tb ca (cb.setIfInBounds i v) (W.setCell ⟨w.heap.size + 1, i, none⟩ v) :=
  ⟨h.below.setCell (p := ⟨w.heap.size + 1, i, none⟩) (Nat.le_succ _) _, h.one.far (by omega) _, h.two.put i v⟩
theorem Duo.to {ca' cb' : Array Value} (h : Duo w ta tb ca cb W) (e : ca = ca') (e' : cb = cb') : Duo w ta tb ca' cb' W := e ▸ e' ▸ h
theorem Duo.book (h : Duo w ta tb ca cb W) (hA : Ab w W x s) (hg : BGoes x s' W W') (ha : 33 ≠ ta) (hb : 33 ≠ tb) : Duo w ta tb ca cb W' :=
  ⟨Below.chg h.below hg.2 h.below.size (fun k e => by have := hA.new; omega), hA.other h.one ha hg, hA.other h.two hb hg⟩
theorem Ab.far (h : Ab w W x s) (hz : w.heap.size ≤ z) (hx : x ≠ z) (i : Nat) (v : Value) : Ab w (W.setCell ⟨z, i, none⟩ v) x s := ⟨Holds.far h.book hx v, h.below.setCell (p := ⟨z, i, none⟩) hz v, h.new⟩
end
/-- So many seconds later. -/
theorem later_div (a b : Int) : (a + 1000 * b) / 1000 = a / 1000 + b ∧ (a + 1000 * b) % 1000 = a % 1000 := by omega
theorem newB_self (q : Int) : newB q q = false := by unfold newB; simp
/-- A number that is at most 29999 behind isn't newer. -/
theorem newB_behind (q o : Int) (ho : 0 ≤ o ∧ o ≤ 65535) : newB ((q - o % 30000) % 65536) q = false := by
  unfold newB
  refine decide_eq_false ?_
  omega
end Go.Proofs.Ytmmdkafkfjfgnaa
