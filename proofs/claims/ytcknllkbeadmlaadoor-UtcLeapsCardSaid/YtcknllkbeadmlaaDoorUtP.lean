/- Package utc: what the law's own helpers answer, and the document's example; the tables that the row lists. -/
import Derived.Test.YtcknllkbeadmlaaDoorUtG
import Derived.Test.YtcknllkbeadmlaaDoorLpL
import Derived.Test.YtcknllkbeadmlaaDoorLpJ
import Derived.Test.YtcknllkbeadmlaaDoorRows
import Derived.ProofKit
import Derived.LaidMore
import Derived.OpenShut
import Derived.Stop.Joined
import Derived.Lib.LaidTab
import Derived.Stop.LaidErr
namespace Go.Proofs.YtcknllkbeadmlaaDoor
open Go.ChangeShapes Go.WideShapes Go.ChangeAt Go.WideElems Go.RowKit Go.Shelf
set_option linter.unusedSimpArgs false
set_option linter.unusedVariables false

def laidTab : List (String × DataW Unit) := [("math/bits.deBruijn32tab", Rows.laid_math_bits_deBruijn32tab), ("math/bits.deBruijn64tab", Rows.laid_math_bits_deBruijn64tab), ("internal/strconv.uint64pow10", Rows.laid_internal_strconv_uint64pow10)]
theorem pow_is {H : Type} : (Rows.laid_internal_strconv_uint64pow10 : DataW H) = Lib.tabData .u64 Lib.pow10Tab := rfl
theorem door_met (os : Os) (args : Array Value) : laidMetH Tryd.prog laidTab ((World.doorLaid Tryd.prog 14 os).forCall (fun _ _ => 0) ⟨#[], args, []⟩).memory :=
  laidMetH_of_parts3 (fuel := 8) (laidMet_of_run' 8 (by kernel_rfl) (by kernel_rfl)) (by kernel_rfl) (by kernel_rfl)
theorem tPow : (Tryd.prog.globals[0]?).map (·.type) = some 131 := by kernel_rfl
theorem tab_of_laid {W : World} (h : laidMetH Tryd.prog laidTab W) : Tab W := by
  rw [MakeChecks.laidMetH_plain _ _ _ (by kernel_rfl)] at h
  have h2 := laidMet.tail (laidMet.tail h)
  rw [pow_is] at h2
  exact Lib.tabIs_of_head gPow tPow Tryd.underlying131 Tryd.underlying118 (by kernel_rfl) (by kernel_rfl) h2

theorem of_any (y m d H M S : Int) (w : World) :
    Calls Tryd.prog 13 #[.agg #[.int .i64 y, .int .i64 m, .int .i64 d, .int .i64 H, .int .i64 M, .int .i64 S]] w fun e w' => e = .returned (.agg #[.int .i64 y, .int .i64 m, .int .i64 d, .int .i64 H, .int .i64 M, .int .i64 S]) ∧ Below w.heap.size w w' := by
  have HX := Lib.hid (Box.start w 28 #[.int .i64 y, .int .i64 m, .int .i64 d, .int .i64 H, .int .i64 M, .int .i64 S])
  have hs0 := size_alloc w (.cells #[.int .i64 y, .int .i64 m, .int .i64 d, .int .i64 H, .int .i64 M, .int .i64 S] 28)
  have hy := Box.start (w.alloc (.cells #[.int .i64 y, .int .i64 m, .int .i64 d, .int .i64 H, .int .i64 M, .int .i64 S] 28)) 35 #[.int .i64 0, .int .i64 0, .int .i64 0, .int .i64 0, .int .i64 0, .int .i64 0]
  replace HX := Lib.hid (HX.out.next hy.below)
  have HY := Lib.hid (show Holds _ (w.heap.size + 1) 35 #[.int .i64 0, .int .i64 0, .int .i64 0, .int .i64 0, .int .i64 0, .int .i64 0] by have := hy.holds; rwa [hs0] at this)
  have hus : (Tryd.prog.info? 35).map (·.size) = some 6 := by kernel_rfl
  clear hs0 hy
  obtain ⟨c0, c1, c2, c3, c4, c5, _⟩ := HX.out.cells6
  have r0 := HY.out.cell 0
  have r1 := HY.out.cell 1
  have r2 := HY.out.cell 2
  have r3 := HY.out.cell 3
  have r4 := HY.out.cell 4
  have r5 := HY.out.cell 5
  have g0 := HY.out.soft 0
  have g1 := HY.out.soft 1
  have g2 := HY.out.soft 2
  have g3 := HY.out.soft 3
  have g4 := HY.out.soft 4
  have g5 := HY.out.soft 5
  have HLT := Lib.hid (show w.heap.size ≤ w.heap.size + 1 by omega)
  go_enter Tryd.func13, Tryd.ntmps13
  go_upto_region 1 with (fail)
  obtain ⟨W0, hW0⟩ : ∃ W0, W0 = (w.alloc (.cells #[.int .i64 y, .int .i64 m, .int .i64 d, .int .i64 H, .int .i64 M, .int .i64 S] 28)).alloc (.cells #[.int .i64 0, .int .i64 0, .int .i64 0, .int .i64 0, .int .i64 0, .int .i64 0] 35) := ⟨_, rfl⟩
  rw [← hW0] at HX HY c0 c1 c2 c3 c4 c5 r0 r1 r2 r3 r4 r5 g0 g1 g2 g3 g4 g5 ⊢
  clear hW0
  go_wp2
  refine bodyPost_ret (results_cell_row rfl _ _ (w.heap.size + 1) 35 #[.int .i64 y, .int .i64 m, .int .i64 d, .int .i64 H, .int .i64 M, .int .i64 S] (0, 0) _ rfl ((((((HY.out.put 0 _).put 1 _).put 2 _).put 3 _).put 4 _).put 5 _) Tryd.underlying35 rfl hus) rfl ?_
  exact ⟨rfl, ((((((HX.out.below.setCell HLT.out _).setCell HLT.out _).setCell HLT.out _).setCell HLT.out _).setCell HLT.out _).setCell HLT.out _)⟩
theorem plain_any (y m d H M S : Int) (w : World) :
    Calls Tryd.prog 15 #[.agg #[.int .i64 y, .int .i64 m, .int .i64 d, .int .i64 H, .int .i64 M, .int .i64 S]] w fun e w' => e = .returned (.agg #[.int .i64 y, .int .i64 m, .int .i64 d, .int .i64 H, .int .i64 M, .int .i64 S]) ∧ Below w.heap.size w w' := by
  have HX := Lib.hid (Box.start w 35 #[.int .i64 y, .int .i64 m, .int .i64 d, .int .i64 H, .int .i64 M, .int .i64 S])
  have hs0 := size_alloc w (.cells #[.int .i64 y, .int .i64 m, .int .i64 d, .int .i64 H, .int .i64 M, .int .i64 S] 35)
  have hy := Box.start (w.alloc (.cells #[.int .i64 y, .int .i64 m, .int .i64 d, .int .i64 H, .int .i64 M, .int .i64 S] 35)) 28 #[.int .i64 0, .int .i64 0, .int .i64 0, .int .i64 0, .int .i64 0, .int .i64 0]
  replace HX := Lib.hid (HX.out.next hy.below)
  have HY := Lib.hid (show Holds _ (w.heap.size + 1) 28 #[.int .i64 0, .int .i64 0, .int .i64 0, .int .i64 0, .int .i64 0, .int .i64 0] by have := hy.holds; rwa [hs0] at this)
  have hus : (Tryd.prog.info? 28).map (·.size) = some 6 := by kernel_rfl
  clear hs0 hy
  obtain ⟨c0, c1, c2, c3, c4, c5, _⟩ := HX.out.cells6
  have r0 := HY.out.cell 0
  have r1 := HY.out.cell 1
  have r2 := HY.out.cell 2
  have r3 := HY.out.cell 3
  have r4 := HY.out.cell 4
  have r5 := HY.out.cell 5
  have g0 := HY.out.soft 0
  have g1 := HY.out.soft 1
  have g2 := HY.out.soft 2
  have g3 := HY.out.soft 3
  have g4 := HY.out.soft 4
  have g5 := HY.out.soft 5
  have HLT := Lib.hid (show w.heap.size ≤ w.heap.size + 1 by omega)
  go_enter Tryd.func15, Tryd.ntmps15
  go_upto_region 1 with (fail)
  obtain ⟨W0, hW0⟩ : ∃ W0, W0 = (w.alloc (.cells #[.int .i64 y, .int .i64 m, .int .i64 d, .int .i64 H, .int .i64 M, .int .i64 S] 35)).alloc (.cells #[.int .i64 0, .int .i64 0, .int .i64 0, .int .i64 0, .int .i64 0, .int .i64 0] 28) := ⟨_, rfl⟩
  rw [← hW0] at HX HY c0 c1 c2 c3 c4 c5 r0 r1 r2 r3 r4 r5 g0 g1 g2 g3 g4 g5 ⊢
  clear hW0
  go_wp2
  refine bodyPost_ret (results_cell_row rfl _ _ (w.heap.size + 1) 28 #[.int .i64 y, .int .i64 m, .int .i64 d, .int .i64 H, .int .i64 M, .int .i64 S] (0, 0) _ rfl ((((((HY.out.put 0 _).put 1 _).put 2 _).put 3 _).put 4 _).put 5 _) Tryd.underlying28 rfl hus) rfl ?_
  exact ⟨rfl, ((((((HX.out.below.setCell HLT.out _).setCell HLT.out _).setCell HLT.out _).setCell HLT.out _).setCell HLT.out _).setCell HLT.out _)⟩
/-- The document's example: a table with one leap. -/
def exL : List (Int × Int) := [(17166, 1)]
theorem ex_tab : GTab 17000 36 18000 exL := ⟨⟨by decide, by decide, by decide, by decide, by decide, by decide, by decide⟩, by unfold Ones exL; decide, by decide, by unfold OrdL exL; refine ⟨by decide, List.pairwise_singleton ..⟩⟩
theorem ex_fault : faultT 17000 36 18000 exL = 0 := by
  unfold faultT
  rw [if_neg (not_not_intro ex_tab.fine), if_neg (not_not_intro ex_tab.ones), if_neg (by decide), if_neg (not_not_intro ex_tab.ord)]
theorem ex_begin : beginV 36 exL 17166 = 1483142436 := by decide
theorem ex_len : lenV exL 17166 = 86401 := by decide
theorem ex_on : OnDay 17000 36 18000 exL 1483228836 17166 := ⟨by decide, by decide, by rw [ex_begin]; decide, by rw [ex_begin, ex_len]; decide⟩
theorem ex_can : CanD 2016 12 31 := ⟨by decide, by decide, by decide, by decide, by decide, by decide⟩
theorem ex_time : CanT 23 59 60 := ⟨by decide, by decide, by decide, by decide, by decide, .inr ⟨rfl, rfl, rfl⟩⟩
theorem ex_num : numV 2016 12 31 = 17166 := by decide
theorem ex_tai : taiR 17000 36 18000 exL 2016 12 31 23 59 60 = (1483228836, 0) := by
  rw [taiR_yes ⟨ex_can, ex_time⟩ (by rw [ex_num]; decide) (by rw [ex_num, ex_len]; decide), ex_num, ex_begin]
  rfl
theorem ex_text : textU 2016 12 31 23 59 60 = ⟨#[50, 48, 49, 54, 45, 49, 50, 45, 51, 49, 84, 50, 51, 58, 53, 57, 58, 54, 48, 90]⟩ := by
  refine ByteArray.ext (Array.toList_inj.1 ?_)
  rw [textU_list, text_list]
  decide
theorem ex_of {w w' : World} {e : Ending} (h : OfPost 17000 36 18000 exL 1483228836 w e w') : e = .returned (.tuple #[.agg #[.int .i64 2016, .int .i64 12, .int .i64 31, .int .i64 23, .int .i64 59, .int .i64 60], .int .i64 0]) ∧ Below w.heap.size w w' := by
  obtain ⟨⟨D, y, m, d, ho, hc, hn, he⟩ | ⟨hn, _⟩, hb⟩ := h
  · have hD := ho.one ex_tab ex_on
    subst hD
    obtain ⟨rfl, rfl, rfl⟩ := num_same hc ex_can (hn.trans ex_num.symm)
    rw [ex_begin] at he
    exact ⟨he, hb⟩
  · exact absurd ⟨_, ex_on⟩ hn
theorem ex_make {w w' : World} {e : Ending} (h : MakePost 17000 36 18000 exL w e w') : ∃ q, e = .returned (.tuple #[.pointer (some ⟨q, 0, none⟩), .int .i64 0]) ∧ Rt w' w'.heap.size q ⟨17000, 36, 18000, exL⟩ ∧ Below w.heap.size w w' := by
  obtain ⟨h1 | h1, hb⟩ := h
  · obtain ⟨_, q, he, ht⟩ := h1
    exact ⟨q, he, ht.rt (by decide) (Nat.le_refl _), hb⟩
  · exact absurd ex_fault h1.1
theorem ex_row (w : World) : PRow (w.alloc (.cells #[.int .i64 17166, .int .i64 1] 63)) (some ⟨w.heap.size, 0, none⟩) 1 1 exL :=
  PRow.of_own (e := 63) (B := w.heap.size) (own_mk (k := 2) (n := 1) (cap := 1) (cur := [.int .i64 17166, .int .i64 1]) (Holds.new w _ _) (Nat.le_refl _) (Nat.le_refl _) (by unfold maxLen; decide) rfl rfl)
set_option maxRecDepth 100000 in
set_option maxHeartbeats 2000000 in
theorem alive_yes (w : World) (hT : Tab w) : Calls Tryd.prog 9 #[] w fun e w' => e = .returned (.bool true) ∧ Below w.heap.size w w' := by
  have HT := Lib.hid hT
  have HM := Lib.hid (make_any _ 17000 36 18000 _ _ _ exL (ex_row w))
  have HB := Lib.hid (below_alloc w (.cells #[.int .i64 17166, .int .i64 1] 63))
  have hbb : ((⟨#[50, 48, 49, 54, 45, 49, 50, 45, 51, 49, 84, 50, 51, 58, 53, 57, 58, 54, 48, 90]⟩ : ByteArray).toList == (⟨#[50, 48, 49, 54, 45, 49, 50, 45, 51, 49, 84, 50, 51, 58, 53, 57, 58, 54, 48, 90]⟩ : ByteArray).toList) = true := beq_self_eq_true _
  have HO := Lib.hid (fun W q (h : Rt W W.heap.size q ⟨17000, 36, 18000, exL⟩) => uof_any 17000 36 18000 1483228836 exL q W ex_tab h ⟨by decide, by decide⟩)
  have HTA := Lib.hid (fun W q (h : Rt W W.heap.size q ⟨17000, 36, 18000, exL⟩) => utai_any q 2016 12 31 23 59 60 W ex_tab h)
  rw [ex_tai] at HTA
  dsimp only at HTA
  have HTX := Lib.hid (fun W (hW : Below w.heap.size w W) => utext_yes 2016 12 31 23 59 60 W ex_can ex_time (HT.out.below hW))
  rw [ex_text] at HTX
  clear hT
  go_enter Tryd.func9, Tryd.ntmps9
  go_wp2_with (first
    | (go_at_call 26; refine HM.out.mono ?_; intro e w1 hp; obtain ⟨q, rfl, hr, hb⟩ := ex_make hp; clear hp; have HR := Lib.hid hr; replace HB := Lib.hid (HB.out.trans (hb.mono HB.out.size)); clear hr hb)
    | (go_at_call 11; refine (HO.out _ _ HR.out).mono ?_; intro e w2 hp; obtain ⟨rfl, hb⟩ := ex_of hp; clear hp; have HX := Lib.hid (Box.start w2 35 #[.int .i64 2016, .int .i64 12, .int .i64 31, .int .i64 23, .int .i64 59, .int .i64 60]); have hbx := hb.trans (HX.out.below.mono hb.size); replace HR := Lib.hid ((HR.out.below hbx).mono hbx.size); replace HB := Lib.hid (HB.out.trans (hbx.mono HB.out.size)); clear hb hbx; obtain ⟨c0, c1, c2, c3, c4, c5, _⟩ := HX.out.cells6)
    | (go_at_call 12; refine (HTA.out _ _ HR.out).mono ?_; rintro e w3 ⟨rfl, hb⟩; replace HX := Lib.hid (HX.out.next hb); replace HB := Lib.hid (HB.out.trans (hb.mono HB.out.size)); clear hb c0 c1 c2 c3 c4 c5; obtain ⟨c0, c1, c2, c3, c4, c5, _⟩ := HX.out.cells6)
    | (go_at_call 19; refine (HTX.out _ HB.out).mono ?_; rintro e w4 ⟨rfl, hb⟩; replace HB := Lib.hid (HB.out.trans (hb.mono HB.out.size)); clear hb))
  go_ret
  exact ⟨rfl, HB.out⟩
attribute [local go_sem] Oper.semAt_some
/-- What a table that is made of what came in is. -/
def MadePost (st ah en : Int) (L : List (Int × Int)) (w : World) (e : Ending) (w' : World) : Prop :=
  ((faultT st ah en L = 0 ∧ ∃ q, e = .returned (.tuple #[.pointer (some ⟨q, 0, none⟩), .int .i64 0]) ∧ Rt w' w'.heap.size q ⟨st, ah, en, L⟩) ∨ (¬ faultT st ah en L = 0 ∧ e = .returned (.tuple #[.pointer none, .int .i64 (faultT st ah en L)]))) ∧ Below w.heap.size w w'
/-- What the law's own helper answers. -/
def MadeB (st ah en : Int) (L : List (Int × Int)) (w : World) (e : Ending) (w' : World) : Prop :=
  ((faultT st ah en L = 0 ∧ ∃ q, e = .returned (.tuple #[.pointer (some ⟨q, 0, none⟩), .bool true]) ∧ Rt w' w'.heap.size q ⟨st, ah, en, L⟩) ∨ (¬ faultT st ah en L = 0 ∧ e = .returned (.tuple #[.pointer none, .bool false]))) ∧ Below w.heap.size w w'
theorem fault_few {st ah en : Int} {L : List (Int × Int)} (h : faultT st ah en L = 0) : FineR st ah en ∧ Ones L ∧ L.length ≤ 64 ∧ OrdL st en L := by
  unfold faultT at h
  by_cases h1 : FineR st ah en
  · rw [if_neg (not_not_intro h1)] at h
    by_cases h2 : Ones L
    · rw [if_neg (not_not_intro h2)] at h
      by_cases h3 : 64 < L.length
      · rw [if_pos h3] at h
        cases h
      · rw [if_neg h3] at h
        by_cases h4 : OrdL st en L
        · exact ⟨h1, h2, by omega, h4⟩
        · rw [if_pos h4] at h
          cases h
    · rw [if_pos h2] at h
      cases h
  · rw [if_pos h1] at h
    cases h
theorem made_of_make {st ah en : Int} {L : List (Int × Int)} {w w1 w' : World} {e : Ending} (hb : Below w.heap.size w w1) (h : MakePost st ah en L w1 e w') : MadePost st ah en L w e w' := by
  obtain ⟨h, hb'⟩ := h
  refine ⟨?_, hb.trans (hb'.mono hb.size)⟩
  rcases h with ⟨h0, q, he, ht⟩ | h
  · exact .inl ⟨h0, q, he, ht.rt (Nat.le_trans (fault_few h0).2.2.1 (by decide)) (Nat.le_refl _)⟩
  · exact .inr h
theorem lp_info : (Tryd.prog.info? 63).map (fun i => (i.zero, i.size, i.bytes)) = some (some (.agg #[.int .i64 0, .int .i64 0]), 2, 16) := by kernel_rfl
set_option maxHeartbeats 2000000 in
theorem made_any (w : World) (st ah en : Int) (A : Option Addr) (n c : Nat) (L : List (Int × Int)) (hr : PRow w A n c L) (hn : n ≤ 1000) :
    Calls Tryd.prog 10 #[.agg #[.int .i64 st, .int .i64 ah, .int .i64 en, .slice A n c]] w (MadeB st ah en L w) := by
  have hnl := hr.len
  have hcap := hr.cap_le
  have hmax := hr.max
  unfold maxLen at hmax
  have HX0 := Lib.hid (Box.start w 24 #[.int .i64 st, .int .i64 ah, .int .i64 en, .slice A n c])
  have HR := Lib.hid hr
  have c0 := HX0.out.holds.cell 0
  have c1 := HX0.out.holds.cell 1
  have c2 := HX0.out.holds.cell 2
  have c3 := HX0.out.holds.cell 3
  have hs0 := size_alloc w (.cells #[.int .i64 st, .int .i64 ah, .int .i64 en, .slice A n c] 24)
  clear hr
  go_enter Tryd.func10, Tryd.ntmps10
  go_wp2
  obtain ⟨w0, hw0⟩ : ∃ w0, w.alloc (.cells #[.int .i64 st, .int .i64 ah, .int .i64 en, .slice A n c] 24) = w0 := ⟨_, rfl⟩
  simp only [hw0] at HX0 hs0 ⊢
  clear c0 c1 c2 c3
  have HX := Lib.hid (show Box w 24 #[.int .i64 st, .int .i64 ah, .int .i64 en, .slice A n c] w0 from HX0.out)
  clear HX0 hw0
  go_loopw [4, 12] (fun l i wr => ∃ (k : Nat) (Al : Option Addr) (cl : Nat), k ≤ n ∧ i = .int .i64 (k : Int) ∧ l = .slice Al k cl ∧ wr.ownsRow (w.heap.size + 1) 63 2 (.slice Al k cl) k (prs (L.take k)) ∧ Box w 24 #[.int .i64 st, .int .i64 ah, .int .i64 en, .slice A n c] wr) (fun _ i _ => n - (intOf i).toNat)
  case atStart => exact ⟨0, none, 0, Nat.zero_le _, rfl, rfl, by rw [List.take_zero]; exact World.ownsRow_nil _ _ _ _, HX.out⟩
  case round =>
    clear HX
    obtain ⟨k, Al, cl, hk, rfl, rfl, ho, hx⟩ := hrel
    have HX := Lib.hid hx
    have c3 := hx.holds.cell 3
    by_cases hlt : k < n
    · obtain ⟨e, he⟩ : ∃ x, L[k]? = some x := ⟨_, List.getElem?_eq_getElem (by omega)⟩
      have hnext : L.take (k + 1) = L.take k ++ [e] := by
        obtain ⟨hk', e'⟩ := List.getElem?_eq_some_iff.1 he
        rw [List.take_succ_eq_append_getElem hk', e']
      obtain ⟨x, y⟩ := e
      obtain ⟨b, off, rfl, hbl, q0, q1⟩ := (HR.out.below HX.out.below).at he
      have hltI : (k : Int) < (n : Int) := by omega
      have ew := IntWalk.i64_in ((k : Int) + 1) (by omega)
      have HNX := Lib.hid (show prs (L.take (k + 1)) = prs (L.take k) ++ [.int .i64 x, .int .i64 y] by rw [hnext, prs_append]; rfl)
      have HY := Lib.hid (Box.start wr 65 #[.int .i64 x, .int .i64 y])
      have x0 := HY.out.holds.cell 0
      have x1 := HY.out.holds.cell 1
      have HZ := Lib.hid (Box.start (wr.alloc (.cells #[.int .i64 x, .int .i64 y] 65)) 63 #[.int .i64 x, .int .i64 y])
      have HB2 := Lib.hid (HY.out.below.trans (HZ.out.below.mono HY.out.below.size))
      have HO := Lib.hid (own_keepK ho HB2.out)
      have HX2 := Lib.hid (HX.out.next HB2.out)
      have HZH := Lib.hid (show Holds ((wr.alloc (.cells #[.int .i64 x, .int .i64 y] 65)).alloc (.cells #[.int .i64 x, .int .i64 y] 63)) (wr.heap.size + 1) 63 #[.int .i64 x, .int .i64 y] by have := HZ.out.holds; rwa [size_alloc] at this)
      have HKN := Lib.hid (show k ≤ 100000 by omega)
      have HSZ := Lib.hid (Nat.le_trans (show w.heap.size + 1 ≤ wr.heap.size from HX.out.holds.lt) HB2.out.size)
      clear he hnext ho hx
      go_wp2_with (at_builtin; refine wpList_pushK rfl (.tmp 16) (.tmp 18) _ rfl (w.heap.size + 1) 63 _ 2 16 Tryd.underlying64 lp_info rfl (by decide) Al k cl (prs (L.take k)) rfl HO.out (wr.heap.size + 1) 63 [.int .i64 x, .int .i64 y] rfl HZH.out rfl (by intro u hu; simp at hu; rcases hu with rfl | rfl <;> rfl) HKN.out (by decide) HSZ.out ?_; intro A8 c8 w8 ho8 hb8; have HO8 := Lib.hid ho8; have HX8 := Lib.hid (show Box w 24 #[.int .i64 st, .int .i64 ah, .int .i64 en, .slice (some ⟨b, off, none⟩) n c] w8 from ⟨HX2.out.holds.below hb8 (Nat.lt_succ_self _), HX2.out.below.trans (hb8.mono (Nat.le_succ _))⟩); clear ho8 hb8)
      go_roundw
      case rel => exact ⟨k + 1, A8, c8, by omega, by go_num, rfl, by rw [HNX.out]; exact HO8.out, HX8.out⟩
      case measure => simp [intOf]; omega
    · have hkn : k = n := by omega
      subst hkn
      have hall : L.take k = L := List.take_of_length_le (by omega)
      rw [hall] at ho
      have HM := Lib.hid (make_any wr st ah en Al k cl L (PRow.of_own ho))
      have c0 := HX.out.holds.cell 0
      have c1 := HX.out.holds.cell 1
      have c2 := HX.out.holds.cell 2
      have hltI : decide ((k : Int) < (k : Int)) = false := decide_eq_false (by omega)
      have HMP := Lib.hid (fun e w' h => made_of_make (st := st) (ah := ah) (en := en) (L := L) (w' := w') (e := e) HX.out.below h)
      clear ho hall hx
      obtain ⟨F, hF⟩ : ∃ F, faultT st ah en L = F := ⟨_, rfl⟩
      have HFF := Lib.hid hF
      unfold MadePost at HMP
      rw [hF] at HMP
      by_cases h0 : F = 0
      · have HF := Lib.hid h0
        clear hF h0
        go_wp2_with (go_at_call 26; refine HM.out.mono ?_; intro e w9 hp; replace hp := HMP.out _ _ hp; obtain ⟨hp, hb9⟩ := hp; obtain ⟨_, q, rfl, ht⟩ := hp.resolve_right (fun h => h.1 HF.out); clear hp; have HT := Lib.hid ht; have HB := Lib.hid hb9; clear ht hb9)
        go_ret2
        exact ⟨.inl ⟨HFF.out.trans HF.out, q, rfl, HT.out⟩, HB.out⟩
      · have HF := Lib.hid h0
        have hFz := beq_no h0
        clear hF h0
        go_wp2_with (go_at_call 26; refine HM.out.mono ?_; intro e w9 hp; replace hp := HMP.out _ _ hp; obtain ⟨hp, hb9⟩ := hp; obtain ⟨_, rfl⟩ := hp.resolve_left (fun h => HF.out h.1); clear hp; have HB := Lib.hid hb9; clear hb9)
        go_ret2
        exact ⟨.inr ⟨fun h => HF.out (HFF.out.symm.trans h), rfl⟩, HB.out⟩
end Go.Proofs.YtcknllkbeadmlaaDoor
