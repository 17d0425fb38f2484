/- Package leap: what the document's example tells; a table made of what came in. -/
import Derived.Test.YtiglhmdiiajmhaaDoorLpG
import Derived.Test.YtiglhmdiiajmhaaDoorLpI
import Derived.Test.YtiglhmdiiajmhaaDoorLpJ
import Derived.Test.YtiglhmdiiajmhaaDoorLpL
import Derived.Test.YtiglhmdiiajmhaaDoorCvX
namespace Go.Proofs.YtiglhmdiiajmhaaDoor
open Go.RowKit Go.Shelf
set_option linter.unusedVariables false
set_option linter.unusedSimpArgs false
attribute [local go_sem] Oper.semAt_some

def exL1 : ByteArray := ⟨#[115, 116, 97, 114, 116, 32, 49, 57, 55, 50, 45, 48, 49, 45, 48, 49, 32, 49, 48]⟩
def exL2 : ByteArray := ⟨#[108, 101, 97, 112, 32, 49, 57, 55, 50, 45, 48, 54, 45, 51, 48, 32, 43, 49]⟩
def exL3 : ByteArray := ⟨#[101, 110, 100, 32, 49, 57, 55, 51, 45, 48, 49, 45, 48, 49]⟩
def exD1 : ByteArray := ⟨#[49, 57, 55, 50, 45, 48, 49, 45, 48, 49]⟩
def exD2 : ByteArray := ⟨#[49, 57, 55, 50, 45, 48, 54, 45, 51, 48]⟩
def exD3 : ByteArray := ⟨#[49, 57, 55, 51, 45, 48, 49, 45, 48, 49]⟩
def exB : ByteArray := ⟨#[115, 116, 97, 114, 116, 32, 49, 57, 55, 50, 45, 48, 49, 45, 48, 49, 32, 49, 48, 10, 108, 101, 97, 112, 32, 49, 57, 55, 50, 45, 48, 54, 45, 51, 48, 32, 43, 49, 10, 101, 110, 100, 32, 49, 57, 55, 51, 45, 48, 49, 45, 48, 49]⟩
theorem day_of_text {y m d : Int} {s : ByteArray} (hc : CanD y m d) (h : (textB y m d).data.toList = s.data.toList) : dayOf s = some (numV y m d) := by
  rw [show s = textB y m d from ByteArray.ext (Array.toList_inj.1 h.symm)]
  exact dayOf_yes (text_is hc)
theorem exD1_is : dayOf exD1 = some 730 := day_of_text (y := 1972) (m := 1) (d := 1) ⟨by decide, by decide, by decide, by decide, by decide, by decide⟩ (by rw [text_list]; decide)
theorem exD2_is : dayOf exD2 = some 911 := day_of_text (y := 1972) (m := 6) (d := 30) ⟨by decide, by decide, by decide, by decide, by decide, by decide⟩ (by rw [text_list]; decide)
theorem exD3_is : dayOf exD3 = some 1096 := day_of_text (y := 1973) (m := 1) (d := 1) ⟨by decide, by decide, by decide, by decide, by decide, by decide⟩ (by rw [text_list]; decide)
def exT : TB := ⟨730, 10, 1096, [(911, 1)]⟩
theorem ex_line1 : lineR 0 TB.zero [startB, exD1, ⟨#[49, 48]⟩] = .ok (1, ⟨730, 10, 0, []⟩) := by
  have h2 : smallOf ⟨#[49, 48]⟩ = some 10 := by decide
  unfold lineR startR
  rw [if_pos rfl]
  simp only [exD1_is, h2, if_true]
  rfl
theorem ex_line2 : lineR 1 ⟨730, 10, 0, []⟩ [leapB, exD2, moreB] = .ok (1, ⟨730, 10, 0, [(911, 1)]⟩) := by
  have h2 : stepOf moreB = some 1 := by decide
  have h3 : takesB 730 [] 911 = true := by decide
  unfold lineR leapR
  rw [if_neg (by decide), if_pos rfl, if_pos (show [leapB, exD2, moreB].head? = some leapB from rfl)]
  simp only [exD2_is, h2, h3, if_true, List.length_nil]
  rfl
theorem ex_line3 : lineR 1 ⟨730, 10, 0, [(911, 1)]⟩ [endB, exD3] = .ok (2, exT) := by
  have h3 : takesB 730 [(911, 1)] 1096 = true := by decide
  unfold lineR endR
  rw [if_neg (by decide), if_pos rfl, if_neg (show ¬ [endB, exD3].head? = some leapB by decide)]
  simp only [exD3_is, h3, if_true]
  rfl
theorem ex_is : parseR exB = .ok exT := by
  unfold parseR
  rw [if_neg (by decide), show pcs 10 exB = [exL1, exL2, exL3] from by decide]
  rw [walkR_cons, if_neg (by decide), show pcs 32 exL1 = [startB, exD1, ⟨#[49, 48]⟩] from by decide, ex_line1]
  dsimp only
  rw [walkR_cons, if_neg (by decide), show pcs 32 exL2 = [leapB, exD2, moreB] from by decide, ex_line2]
  dsimp only
  rw [walkR_cons, if_neg (by decide), show pcs 32 exL3 = [endB, exD3] from by decide, ex_line3]
  rfl
theorem ex_post {w w' : World} {e : Ending} (h : ReadPost exB w e w') : ∃ q, e = .returned (.tuple #[.pointer (some ⟨q, 0, none⟩), .int .i64 0, .int .i64 0]) ∧ Rt w' w'.heap.size q exT ∧ Below w.heap.size w w' := by
  obtain ⟨h1 | h1, hb⟩ := h
  · obtain ⟨T, q, hp, he, ht⟩ := h1
    rw [ex_is] at hp
    simp only [Except.ok.injEq] at hp
    subst hp
    exact ⟨q, he, ht.rt (by decide) (Nat.le_refl _), hb⟩
  · obtain ⟨n, c, hp, _⟩ := h1
    rw [ex_is] at hp
    cases hp
theorem ex_ahead (w : World) (q : Nat) (d n : Int) (h : Rt w w.heap.size q exT) (h1 : 730 ≤ d) (h2 : d < 1096) (hn : aheadL 10 [(911, 1)] d = n) :
    Calls Tryd.prog 12 #[.pointer (some ⟨q, 0, none⟩), .int .i64 d] w fun e w' => e = .returned (.tuple #[.int .i64 n, .bool true]) ∧ Below w.heap.size w w' := by
  subst hn
  exact ahead_yes w q exT d h h1 h2 (by unfold Ones; decide) (by decide)
theorem ex_step (w : World) (q : Nat) (h : Rt w w.heap.size q exT) :
    Calls Tryd.prog 13 #[.pointer (some ⟨q, 0, none⟩), .int .i64 911] w fun e w' => e = .returned (.int .i64 1) ∧ Below w.heap.size w w' := by
  have h1 : stepL exT.lp 911 = 1 := by rw [show exT.lp = [((911 : Int), (1 : Int))] from rfl, stepL_cons, if_pos rfl]
  have := step_any w _ _ _ _ 911 h.src
  rwa [h1] at this
set_option maxRecDepth 100000 in
set_option maxHeartbeats 2000000 in
theorem alive_yes (w : World) (hM : Mt w) : Calls Tryd.prog 8 #[] w fun e w' => e = .returned (.bool true) ∧ Below w.heap.size w w' := by
  have HP := Lib.hid (lread_any exB w hM)
  unfold exB at HP
  have HX := Lib.hid (fun e w' => ex_post (w := w) (w' := w') (e := e))
  unfold exB at HX
  have HA := Lib.hid (fun W q h => ex_ahead W q 912 11 h (by decide) (by decide) (by decide))
  have HC := Lib.hid (fun W q h => ex_ahead W q 911 10 h (by decide) (by decide) (by decide))
  clear hM
  go_enter Tryd.func8, Tryd.ntmps8
  go_wp2_with (first
    | (go_at_call 19; with_reducible refine HP.out.mono ?_; intro e w1 hp; obtain ⟨q, rfl, hr, hb⟩ := HX.out _ _ hp; clear hp; have HR := Lib.hid hr; have HB := Lib.hid hb; clear hr hb)
    | (go_at_call 12; with_reducible refine (HA.out _ _ HR.out).mono ?_; rintro e w2 ⟨rfl, hb⟩; have HR := Lib.hid ((HR.out.below hb).mono hb.size); have HB := Lib.hid (HB.out.trans (hb.mono HB.out.size)); clear hb)
    | (go_at_call 12; with_reducible refine (HC.out _ _ HR.out).mono ?_; rintro e w3 ⟨rfl, hb⟩; have HR := Lib.hid ((HR.out.below hb).mono hb.size); have HB := Lib.hid (HB.out.trans (hb.mono HB.out.size)); clear hb)
    | (go_at_call 13; refine (ex_step _ _ HR.out).mono ?_; rintro e w4 ⟨rfl, hb⟩; have HB := Lib.hid (HB.out.trans (hb.mono HB.out.size)); clear hb))
  go_ret
  exact ⟨rfl, HB.out⟩
/-- What a table that is made of what came in is. -/
def MadePost (st ah en : Int) (L : List (Int × Int)) (w : World) (e : Ending) (w' : World) : Prop :=
  ((faultT st ah en L = 0 ∧ ∃ q, e = .returned (.tuple #[.pointer (some ⟨q, 0, none⟩), .int .i64 0]) ∧ Rt w' w'.heap.size q ⟨st, ah, en, L⟩) ∨ (¬ faultT st ah en L = 0 ∧ e = .returned (.tuple #[.pointer none, .int .i64 (faultT st ah en L)]))) ∧ Below w.heap.size w w'
theorem fault_few {st ah en : Int} {L : List (Int × Int)} (h : faultT st ah en L = 0) : FineR st ah en ∧ Ones L ∧ L.length ≤ 64 ∧ OrdL st en L := by
  unfold faultT at h
  by_cases h1 : FineR st ah en
  · rw [if_neg (not_not_intro h1)] at h
    by_cases h2 : Ones L
    · rw [if_neg (not_not_intro h2)] at h
      by_cases h3 : 64 < L.length
      · rw [if_pos h3] at h
        cases h
      · rw [if_neg h3] at h
        by_cases h4 : OrdL st en L
        · exact ⟨h1, h2, by omega, h4⟩
        · rw [if_pos h4] at h
          cases h
    · rw [if_pos h2] at h
      cases h
  · rw [if_pos h1] at h
    cases h
theorem made_of_make {st ah en : Int} {L : List (Int × Int)} {w w1 w' : World} {e : Ending} (hb : Below w.heap.size w w1) (h : MakePost st ah en L w1 e w') : MadePost st ah en L w e w' := by
  obtain ⟨h, hb'⟩ := h
  refine ⟨?_, hb.trans (hb'.mono hb.size)⟩
  rcases h with ⟨h0, q, he, ht⟩ | h
  · exact .inl ⟨h0, q, he, ht.rt (Nat.le_trans (fault_few h0).2.2.1 (by decide)) (Nat.le_refl _)⟩
  · exact .inr h
theorem lp_info : (Tryd.prog.info? 51).map (fun i => (i.zero, i.size, i.bytes)) = some (some (.agg #[.int .i64 0, .int .i64 0]), 2, 16) := by kernel_rfl
set_option maxHeartbeats 2000000 in
theorem made_any (w : World) (st ah en : Int) (A : Option Addr) (n c : Nat) (L : List (Int × Int)) (hr : PRow w A n c L) (hn : n ≤ 1000) :
    Calls Tryd.prog 9 #[.agg #[.int .i64 st, .int .i64 ah, .int .i64 en, .slice A n c]] w (MadePost st ah en L w) := by
  have hnl := hr.len
  have hcap := hr.cap_le
  have hmax := hr.max
  unfold maxLen at hmax
  have HX0 := Lib.hid (Box.start w 24 #[.int .i64 st, .int .i64 ah, .int .i64 en, .slice A n c])
  have HR := Lib.hid hr
  have c0 := HX0.out.holds.cell 0
  have c1 := HX0.out.holds.cell 1
  have c2 := HX0.out.holds.cell 2
  have c3 := HX0.out.holds.cell 3
  have hs0 := size_alloc w (.cells #[.int .i64 st, .int .i64 ah, .int .i64 en, .slice A n c] 24)
  clear hr
  go_enter Tryd.func9, Tryd.ntmps9
  go_wp2
  obtain ⟨w0, hw0⟩ : ∃ w0, w.alloc (.cells #[.int .i64 st, .int .i64 ah, .int .i64 en, .slice A n c] 24) = w0 := ⟨_, rfl⟩
  simp only [hw0] at HX0 hs0 ⊢
  clear c0 c1 c2 c3
  have HX := Lib.hid (show Box w 24 #[.int .i64 st, .int .i64 ah, .int .i64 en, .slice A n c] w0 from HX0.out)
  clear HX0 hw0
  go_loopw [4, 10] (fun l i wr => ∃ (k : Nat) (Al : Option Addr) (cl : Nat), k ≤ n ∧ i = .int .i64 (k : Int) ∧ l = .slice Al k cl ∧ wr.ownsRow (w.heap.size + 1) 51 2 (.slice Al k cl) k (prs (L.take k)) ∧ Box w 24 #[.int .i64 st, .int .i64 ah, .int .i64 en, .slice A n c] wr) (fun _ i _ => n - (intOf i).toNat)
  case atStart => exact ⟨0, none, 0, Nat.zero_le _, rfl, rfl, by rw [List.take_zero]; exact World.ownsRow_nil _ _ _ _, HX.out⟩
  case round =>
    clear HX
    obtain ⟨k, Al, cl, hk, rfl, rfl, ho, hx⟩ := hrel
    have HX := Lib.hid hx
    have c3 := hx.holds.cell 3
    by_cases hlt : k < n
    · obtain ⟨e, he⟩ : ∃ x, L[k]? = some x := ⟨_, List.getElem?_eq_getElem (by omega)⟩
      have hnext : L.take (k + 1) = L.take k ++ [e] := by
        obtain ⟨hk', e'⟩ := List.getElem?_eq_some_iff.1 he
        rw [List.take_succ_eq_append_getElem hk', e']
      obtain ⟨x, y⟩ := e
      obtain ⟨b, off, rfl, hbl, q0, q1⟩ := (HR.out.below HX.out.below).at he
      have hltI : (k : Int) < (n : Int) := by omega
      have ew := IntWalk.i64_in ((k : Int) + 1) (by omega)
      have HNX := Lib.hid (show prs (L.take (k + 1)) = prs (L.take k) ++ [.int .i64 x, .int .i64 y] by rw [hnext, prs_append]; rfl)
      have HY := Lib.hid (Box.start wr 50 #[.int .i64 x, .int .i64 y])
      have x0 := HY.out.holds.cell 0
      have x1 := HY.out.holds.cell 1
      have HZ := Lib.hid (Box.start (wr.alloc (.cells #[.int .i64 x, .int .i64 y] 50)) 51 #[.int .i64 x, .int .i64 y])
      have HB2 := Lib.hid (HY.out.below.trans (HZ.out.below.mono HY.out.below.size))
      have HO := Lib.hid (own_keepK ho HB2.out)
      have HX2 := Lib.hid (HX.out.next HB2.out)
      have HZH := Lib.hid (show Holds ((wr.alloc (.cells #[.int .i64 x, .int .i64 y] 50)).alloc (.cells #[.int .i64 x, .int .i64 y] 51)) (wr.heap.size + 1) 51 #[.int .i64 x, .int .i64 y] by have := HZ.out.holds; rwa [size_alloc] at this)
      have HKN := Lib.hid (show k ≤ 100000 by omega)
      have HSZ := Lib.hid (Nat.le_trans (show w.heap.size + 1 ≤ wr.heap.size from HX.out.holds.lt) HB2.out.size)
      clear he hnext ho hx
      go_wp2_with (at_builtin; refine wpList_pushK rfl (.tmp 14) (.tmp 16) _ rfl (w.heap.size + 1) 51 _ 2 16 Tryd.underlying48 lp_info rfl (by decide) Al k cl (prs (L.take k)) rfl HO.out (wr.heap.size + 1) 51 [.int .i64 x, .int .i64 y] rfl HZH.out rfl (by intro u hu; simp at hu; rcases hu with rfl | rfl <;> rfl) HKN.out (by decide) HSZ.out ?_; intro A8 c8 w8 ho8 hb8; have HO8 := Lib.hid ho8; have HX8 := Lib.hid (show Box w 24 #[.int .i64 st, .int .i64 ah, .int .i64 en, .slice (some ⟨b, off, none⟩) n c] w8 from ⟨HX2.out.holds.below hb8 (Nat.lt_succ_self _), HX2.out.below.trans (hb8.mono (Nat.le_succ _))⟩); clear ho8 hb8)
      go_roundw
      case rel => exact ⟨k + 1, A8, c8, by omega, by go_num, rfl, by rw [HNX.out]; exact HO8.out, HX8.out⟩
      case measure => simp [intOf]; omega
    · have hkn : k = n := by omega
      subst hkn
      have hall : L.take k = L := List.take_of_length_le (by omega)
      rw [hall] at ho
      have HM := Lib.hid (make_any wr st ah en Al k cl L (PRow.of_own ho))
      have c0 := HX.out.holds.cell 0
      have c1 := HX.out.holds.cell 1
      have c2 := HX.out.holds.cell 2
      have hltI : decide ((k : Int) < (k : Int)) = false := decide_eq_false (by omega)
      have HMP := Lib.hid (fun e w' h => made_of_make (st := st) (ah := ah) (en := en) (L := L) (w' := w') (e := e) HX.out.below h)
      clear ho hall hx
      obtain ⟨F, hF⟩ : ∃ F, faultT st ah en L = F := ⟨_, rfl⟩
      have HFF := Lib.hid hF
      unfold MadePost at HMP
      rw [hF] at HMP
      by_cases h0 : F = 0
      · have HF := Lib.hid h0
        clear hF h0
        go_wp2_with (go_at_call 22; refine HM.out.mono ?_; intro e w9 hp; replace hp := HMP.out _ _ hp; obtain ⟨hp, hb9⟩ := hp; obtain ⟨_, q, rfl, ht⟩ := hp.resolve_right (fun h => h.1 HF.out); clear hp; have HT := Lib.hid ht; have HB := Lib.hid hb9; clear ht hb9)
        go_ret2
        exact ⟨.inl ⟨HFF.out.trans HF.out, q, rfl, HT.out⟩, HB.out⟩
      · have HF := Lib.hid h0
        clear hF h0
        go_wp2_with (go_at_call 22; refine HM.out.mono ?_; intro e w9 hp; replace hp := HMP.out _ _ hp; obtain ⟨hp, hb9⟩ := hp; obtain ⟨_, rfl⟩ := hp.resolve_left (fun h => HF.out h.1); clear hp; have HB := Lib.hid hb9; clear hb9)
        go_ret2
        exact ⟨.inr ⟨fun h => HF.out (HFF.out.symm.trans h), by rw [HFF.out]; rfl⟩, HB.out⟩
end Go.Proofs.YtiglhmdiiajmhaaDoor
