/- Package leap: all lines, one behind the other. -/
import Derived.Test.YtiglhmdiiajmhaaDoorLpD
import Derived.Test.YtiglhmdiiajmhaaDoorLpE
namespace Go.Proofs.YtiglhmdiiajmhaaDoor
open Go.RowKit
set_option linter.unusedSimpArgs false
set_option linter.unusedVariables false

theorem text_lit (a : ByteArray) (l : List UInt8) : (a.toList == l) = decide (a = ⟨l.toArray⟩) := by
  have h := text_eq a ⟨l.toArray⟩
  rwa [show (⟨l.toArray⟩ : ByteArray).toList = l from by rw [Lib.toList_data]] at h
theorem walk_some {L : List ByteArray} {k k' : Nat} {l : ByteArray} (h : nextR (L.drop k) k = (k', some l)) (s : Nat) (T : TB) : walkR s T (L.drop k) k = match lineR s T (pcs 32 l) with
    | .error c => .error (k', c)
    | .ok (s', T') => walkR s' T' (L.drop k') k' := by
  have hb := (nextR_bd (L.drop k) k).1
  rw [walk_next, h]
  rw [h] at hb
  dsimp only at hb ⊢
  rw [List.drop_drop, show k + (k' - k) = k' by omega]
  cases lineR s T (pcs 32 l) with
  | error c => rfl
  | ok p => rfl
theorem walk_none {L : List ByteArray} {k k' : Nat} (h : nextR (L.drop k) k = (k', none)) (s : Nat) (T : TB) : walkR s T (L.drop k) k = if s = 2 then .ok T else .error (k', 3) := by
  rw [walk_next, h]
theorem leapR_len {T T' : TB} {ws : List ByteArray} (h : leapR T ws = .ok T') : T'.lp.length ≤ 64 := by
  unfold leapR at h
  split at h
  · split at h
    · split at h
      · split at h
        · cases h
        · split at h
          · cases h
            simp only [List.length_append, List.length_cons, List.length_nil]
            omega
          · cases h
      · cases h
    · cases h
  · cases h
theorem startR_lp {T T' : TB} {ws : List ByteArray} (h : startR T ws = .ok T') : T'.lp = T.lp := by
  unfold startR at h
  split at h
  · split at h
    · split at h
      · cases h
        rfl
      · cases h
    · cases h
  · cases h
theorem endR_lp {T T' : TB} {ws : List ByteArray} (h : endR T ws = .ok T') : T'.lp = T.lp := by
  unfold endR at h
  split at h
  · split at h
    · split at h
      · split at h
        · cases h
          rfl
        · cases h
      · cases h
    · cases h
  · cases h
theorem line_start (T : TB) (ws : List ByteArray) : lineR 0 T ws = (startR T ws).map fun T => (1, T) := rfl
theorem line_leap (T : TB) (ws : List ByteArray) (h : ws.head? = some leapB) : lineR 1 T ws = (leapR T ws).map fun T => (1, T) := by
  unfold lineR
  rw [if_neg (by decide), if_pos rfl, if_pos h]
theorem line_end (T : TB) (ws : List ByteArray) (h : ¬ ws.head? = some leapB) : lineR 1 T ws = (endR T ws).map fun T => (2, T) := by
  unfold lineR
  rw [if_neg (by decide), if_pos rfl, if_neg h]
theorem line_behind (T : TB) (ws : List ByteArray) : lineR 2 T ws = .error 3 := by
  unfold lineR
  rw [if_neg (by decide), if_neg (by decide)]
theorem words_short {L : List ByteArray} {k k' : Nat} {l : ByteArray} (h : nextR (L.drop k) k = (k', some l)) (hs : ∀ s ∈ L, s.size ≤ 16384) : ∀ s ∈ pcs 32 l, s.size ≤ 16384 := fun s hp =>
  Nat.le_trans (pcs_size 32 l s hp) (hs l (List.mem_of_mem_drop (nextR_mem (L.drop k) k l (by rw [h]))))
theorem next_some (w0 w : World) (g q : Nat) (L ws : List ByteArray) (k : Nat) (T : TB) (h : RT w0 w g q L k ws T) (hM : Mt w0) {k' : Nat} {l : ByteArray} (hn : nextR (L.drop k) k = (k', some l)) :
    Calls Tryd.prog 47 #[.pointer (some ⟨g, 0, none⟩)] w fun e w' => e = .returned (.bool true) ∧ RT w0 w' g q L k' (pcs 32 l) T := by
  refine (next_any w0 w g q L ws k T h hM).mono ?_
  rintro e w' (⟨k2, l2, h2, rfl, hr⟩ | ⟨h2, _, _⟩)
  · rw [hn] at h2
    cases h2
    exact ⟨rfl, hr⟩
  · rw [hn] at h2
    cases h2
theorem next_none (w0 w : World) (g q : Nat) (L ws : List ByteArray) (k : Nat) (T : TB) (h : RT w0 w g q L k ws T) (hM : Mt w0) {k' : Nat} (hn : nextR (L.drop k) k = (k', none)) :
    Calls Tryd.prog 47 #[.pointer (some ⟨g, 0, none⟩)] w fun e w' => e = .returned (.bool false) ∧ RT w0 w' g q L k' [] T := by
  refine (next_any w0 w g q L ws k T h hM).mono ?_
  rintro e w' (⟨k2, l2, h2, rfl, hr⟩ | ⟨h2, rfl, hr⟩)
  · rw [hn] at h2
    cases h2
  · rw [hn] at h2
    cases h2
    exact ⟨rfl, hr⟩
/-- Behind the reading of all lines. -/
def TabPost (w0 : World) (L : List ByteArray) (e : Ending) (w' : World) : Prop :=
  (∃ T q, walkR 0 TB.zero L 0 = .ok T ∧ e = .returned (.pointer (some ⟨q, 0, none⟩)) ∧ Tl w' w0.heap.size q T ∧ Below w0.heap.size w0 w') ∨ (∃ n c, walkR 0 TB.zero L 0 = .error (n, c) ∧ e = .panicked (faultV (n : Int) c) ∧ Below w0.heap.size w0 w')
theorem rt_new {w0 w : World} {g : Nat} {L : List ByteArray} (h : Rd w w0.heap.size g L 0 []) (hb : Below w0.heap.size w0 w) : RT w0 (w.alloc (.cells #[.int .i64 0, .int .i64 0, .int .i64 0, .slice none 0 0] 54)) g w.heap.size L 0 [] TB.zero :=
  ⟨h.below (below_alloc _ _), ⟨hb.size, none, 0, Holds.new w _ _, World.ownsRow_nil _ _ _ _⟩, hb.trans ((below_alloc w _).mono hb.size)⟩
theorem nextR_some : ∀ (ls : List ByteArray) (k k' : Nat) (l : ByteArray), nextR ls k = (k', some l) → k + 1 ≤ k'
  | [], k, k', l, h => by cases h
  | x :: ls, k, k', l, h => by
    rw [nextR_cons] at h
    split at h
    · have := nextR_some ls (k + 1) k' l h
      omega
    · cases h
      exact Nat.le_refl _
theorem LinePost.err {w0 : World} {g q : Nat} {L ws : List ByteArray} {k : Nat} {r : Except Int TB} {e : Ending} {w' : World} (h : LinePost w0 g q L k ws r e w') {c : Int} (hr : r = .error c) : e = .panicked (faultV (k : Int) c) ∧ Below w0.heap.size w0 w' := by
  subst hr
  rcases h with ⟨T', h1, _⟩ | ⟨c', h1, h2, h3⟩
  · cases h1
  · cases h1
    exact ⟨h2, h3⟩
theorem LinePost.ok {w0 : World} {g q : Nat} {L ws : List ByteArray} {k : Nat} {r : Except Int TB} {e : Ending} {w' : World} (h : LinePost w0 g q L k ws r e w') {T : TB} (hr : r = .ok T) : e = .returned (.tuple #[]) ∧ RT w0 w' g q L k ws T := by
  subst hr
  rcases h with ⟨T', h1, h2, h3⟩ | ⟨c', h1, _⟩
  · cases h1
    exact ⟨h2, h3⟩
  · cases h1
theorem RT.word0 {w0 w : World} {g q : Nat} {L : List ByteArray} {k : Nat} {T : TB} {x : ByteArray} {xs : List ByteArray} (h : RT w0 w g q L k (x :: xs) T) : ∃ b c, w.cell? ⟨g, 2, none⟩ = some (.slice (some ⟨b, 0, none⟩) (xs.length + 1) c) ∧ w.cell? ⟨b, 0, none⟩ = some (.string x) ∧ xs.length + 1 ≤ c := by
  obtain ⟨hB, hl, hf, hs, A, c, A2, c2, h1, h2, h3⟩ := h.rd
  obtain ⟨b, rfl, _, hnc, _, hc⟩ := own_text h3 (i := 0) (s := x) rfl
  exact ⟨b, c2, h1.cell 2, hc, hnc⟩
theorem first_line {L : List ByteArray} (hs : ∀ s ∈ L, s.size ≤ 16384) {w0 : World} (hM : Mt w0) (g : Nat) : ∃ (k1 : Nat) (ws1 : List ByteArray) (b1 : Bool), (∀ W q, RT w0 W g q L 0 [] TB.zero → Calls Tryd.prog 47 #[.pointer (some ⟨g, 0, none⟩)] W fun e w' => e = .returned (.bool b1) ∧ RT w0 w' g q L k1 ws1 TB.zero) ∧
      (∀ c, startR TB.zero ws1 = .error c → walkR 0 TB.zero L 0 = .error (k1, c)) ∧ (∀ T, startR TB.zero ws1 = .ok T → walkR 1 T (L.drop k1) k1 = walkR 0 TB.zero L 0) ∧ ∀ s ∈ ws1, s.size ≤ 16384 := by
  rcases hnx : nextR (L.drop 0) 0 with ⟨k', _ | l⟩
  · refine ⟨k', [], false, fun W q h => next_none w0 W g q L [] 0 TB.zero h hM hnx, fun c hc => ?_, fun T hT => (by cases hT), (by simp)⟩
    have h1 : walkR 0 TB.zero L 0 = _ := walk_none hnx 0 TB.zero
    rw [h1, if_neg (by decide)]
    cases hc
    rfl
  · have h1 : walkR 0 TB.zero L 0 = _ := walk_some hnx 0 TB.zero
    refine ⟨k', pcs 32 l, true, fun W q h => next_some w0 W g q L [] 0 TB.zero h hM hnx, fun c hc => ?_, fun T hT => ?_, words_short hnx hs⟩
    · rw [h1, line_start, hc]
      rfl
    · rw [h1, line_start, hT]
      rfl
set_option maxRecDepth 100000 in
set_option maxHeartbeats 4000000 in
theorem table_any (w0 w : World) (g : Nat) (L : List ByteArray) (h : Rd w w0.heap.size g L 0 []) (hb : Below w0.heap.size w0 w) (hM : Mt w0) :
    Calls Tryd.prog 31 #[.pointer (some ⟨g, 0, none⟩)] w (TabPost w0 L) := by
  have hsh := h.short
  have HSh := Lib.hid hsh
  have HR := Lib.hid (rt_new h hb)
  have HM := Lib.hid hM
  obtain ⟨k1, ws1, b1, hw1, hc1, ho1, hs1⟩ := first_line hsh hM g
  have HW1 := Lib.hid hw1
  have HS1 := Lib.hid hs1
  clear hsh h hb hM hw1 hs1
  cases hst : startR TB.zero ws1 with
  | error c =>
    have HE := Lib.hid (hc1 c hst)
    have HST := Lib.hid hst
    clear hc1 ho1 hst
    go_enter Tryd.func31, Tryd.ntmps31
    go_wp2_with (first
      | (go_at_call 47; refine (HW1.out _ _ HR.out).mono ?_; rintro e w1 ⟨rfl, hr1⟩; have HR1 := Lib.hid hr1; clear hr1)
      | (go_at_call 48; refine (start_any w0 _ g _ L ws1 k1 TB.zero HR1.out HS1.out).mono ?_; intro e w2 hp; obtain ⟨rfl, ho⟩ := hp.err HST.out))
    exact ⟨rfl, .inr ⟨k1, c, HE.out, rfl, ho⟩⟩
  | ok T1 =>
    have HO := Lib.hid (ho1 T1 hst)
    have HST := Lib.hid hst
    have HL1 := Lib.hid (show T1.lp.length ≤ 64 by rw [startR_lp hst]; exact Nat.zero_le _)
    obtain ⟨R, hR⟩ : ∃ R, walkR 0 TB.zero L 0 = R := ⟨_, rfl⟩
    unfold TabPost
    rw [hR] at HO ⊢
    clear hc1 ho1 hst hR
    go_enter Tryd.func31, Tryd.ntmps31
    go_wp2_with (first
      | (go_at_call 47; refine (HW1.out _ _ HR.out).mono ?_; rintro e w1 ⟨rfl, hr1⟩; have HR1 := Lib.hid hr1; clear hr1)
      | (go_at_call 48; refine (start_any w0 _ g _ L ws1 k1 TB.zero HR1.out HS1.out).mono ?_; intro e w2 hp; obtain ⟨rfl, hr2⟩ := hp.ok HST.out; have HR2 := Lib.hid hr2; clear hp hr2))
    obtain ⟨q, hq⟩ : ∃ q, w.heap.size = q := ⟨_, rfl⟩
    simp only [hq] at HR2 ⊢
    clear hq HR HR1 HW1 HS1 HST
    go_loopw [10] (fun _ wr => ∃ (k : Nat) (T : TB) (ws : List ByteArray), RT w0 wr g q L k ws T ∧ walkR 1 T (L.drop k) k = R ∧ T.lp.length ≤ 64) (fun _ wr => L.length - lineAt wr g)
    case atStart => exact ⟨k1, T1, ws1, HR2.out, HO.out, HL1.out⟩
    case round =>
      clear HR2 HO HL1
      obtain ⟨k, T, ws, hr, hw, hl⟩ := hrel
      have HR := Lib.hid hr
      have HL := Lib.hid hl
      rcases hnx : nextR (L.drop k) k with ⟨k', _ | l⟩
      · have HE := Lib.hid (show R = .error (k', 3) by rw [← hw, walk_none hnx, if_neg (by decide)])
        have HN := Lib.hid (next_none w0 wr g q L ws k T hr HM.out hnx)
        have HER := Lib.hid (endR_bad (T := T) (ws := []) (by simp))
        clear hr hw hl hnx
        go_wp2_with (first
          | (go_at_call 47; refine HN.out.mono ?_; rintro e w3 ⟨rfl, hr3⟩; have HR3 := Lib.hid hr3; clear hr3)
          | (go_at_call 50; refine (end_any w0 _ g q L [] k' T HR3.out (by simp) (by have := HL.out; omega)).mono ?_; intro e w4 hp; obtain ⟨rfl, ho⟩ := hp.err HER.out))
        exact ⟨rfl, .inr ⟨k', 3, HE.out, rfl, ho⟩⟩
      · have hkk := nextR_some _ _ _ _ hnx
        have hle := (nextR_bd (L.drop k) k).2
        rw [hnx, List.length_drop] at hle
        dsimp only at hle
        have hkl := hr.rd.le
        have HWS := Lib.hid (words_short hnx HSh.out)
        have HN := Lib.hid (next_some w0 wr g q L ws k T hr HM.out hnx)
        rw [walk_some hnx] at hw
        obtain ⟨x, xs, hxs⟩ : ∃ x xs, pcs 32 l = x :: xs := by
          have := (pcs_len 32 l).1
          cases hp : pcs 32 l with
          | nil => rw [hp] at this; simp at this
          | cons x xs => exact ⟨x, xs, rfl⟩
        rw [hxs] at hw HWS HN
        have hlt : (0 : Int) < ((xs.length + 1 : Nat) : Int) := by omega
        have HN2 := Lib.hid (show Calls Tryd.prog 47 #[.pointer (some ⟨g, 0, none⟩)] wr fun e w' => e = .returned (.bool true) ∧ RT w0 w' g q L k' (x :: xs) T from HN.out)
        clear HN hr hnx hxs
        by_cases hx : x = leapB
        · have ht : (x.toList == [108, 101, 97, 112]) = true := by rw [text_lit]; exact decide_eq_true hx
          rw [line_leap T (x :: xs) (by rw [hx]; rfl)] at hw
          clear hx
          cases hlr : leapR T (x :: xs) with
          | error c =>
            rw [hlr] at hw
            have HE := Lib.hid (show R = .error (k', c) from hw.symm)
            have HLR := Lib.hid hlr
            clear hw hlr hl
            go_wp2_with (first
              | (go_at_call 47; refine HN2.out.mono ?_; rintro e w3 ⟨rfl, hr3⟩; have HR3 := Lib.hid hr3; obtain ⟨b, cc, q2, q0, hcc⟩ := hr3.word0; clear hr3)
              | (go_at_call 49; refine (leap_any w0 _ g q L (x :: xs) k' T HR3.out HWS.out).mono ?_; intro e w4 hp; obtain ⟨rfl, ho⟩ := hp.err HLR.out))
            exact ⟨rfl, .inr ⟨k', c, HE.out, rfl, ho⟩⟩
          | ok T' =>
            rw [hlr] at hw
            have HE := Lib.hid (show walkR 1 T' (L.drop k') k' = R from hw)
            have HLR := Lib.hid hlr
            have HLL := Lib.hid (leapR_len hlr)
            clear hw hlr hl
            go_wp2_with (first
              | (go_at_call 47; refine HN2.out.mono ?_; rintro e w3 ⟨rfl, hr3⟩; have HR3 := Lib.hid hr3; obtain ⟨b, cc, q2, q0, hcc⟩ := hr3.word0; clear hr3)
              | (go_at_call 49; refine (leap_any w0 _ g q L (x :: xs) k' T HR3.out HWS.out).mono ?_; intro e w4 hp; obtain ⟨rfl, hr4⟩ := hp.ok HLR.out; have HR4 := Lib.hid hr4; clear hp hr4 q2 q0))
            go_roundw
            case rel => exact ⟨k', T', _, HR4.out, HE.out, HLL.out⟩
            case measure => rw [HR4.out.at, HR.out.at]; omega
        · have ht : (x.toList == [108, 101, 97, 112]) = false := by rw [text_lit]; exact decide_eq_false hx
          rw [line_end T (x :: xs) (by simpa using hx)] at hw
          clear hx
          cases hlr : endR T (x :: xs) with
          | error c =>
            rw [hlr] at hw
            have HE := Lib.hid (show R = .error (k', c) from hw.symm)
            have HLR := Lib.hid hlr
            clear hw hlr hl
            go_wp2_with (first
              | (go_at_call 47; refine HN2.out.mono ?_; rintro e w3 ⟨rfl, hr3⟩; have HR3 := Lib.hid hr3; obtain ⟨b, cc, q2, q0, hcc⟩ := hr3.word0; clear hr3)
              | (go_at_call 50; refine (end_any w0 _ g q L (x :: xs) k' T HR3.out HWS.out (by have := HL.out; omega)).mono ?_; intro e w4 hp; obtain ⟨rfl, ho⟩ := hp.err HLR.out))
            exact ⟨rfl, .inr ⟨k', c, HE.out, rfl, ho⟩⟩
          | ok T' =>
            rw [hlr] at hw
            have hw2 : walkR 2 T' (L.drop k') k' = R := hw
            have HLR := Lib.hid hlr
            clear hw hlr hl
            rcases hnx2 : nextR (L.drop k') k' with ⟨k2, _ | l2⟩
            · have HE := Lib.hid (show R = .ok T' by rw [← hw2, walk_none hnx2, if_pos rfl])
              have HX := Lib.hid (fun W h => next_none w0 W g q L (x :: xs) k' T' h HM.out hnx2)
              clear hw2 hnx2
              go_wp2_with (first
                | (go_at_call 47; with_reducible refine HN2.out.mono ?_; rintro e w3 ⟨rfl, hr3⟩; have HR3 := Lib.hid hr3; obtain ⟨b, cc, q2, q0, hcc⟩ := hr3.word0; clear hr3)
                | (go_at_call 50; refine (end_any w0 _ g q L (x :: xs) k' T HR3.out HWS.out (by have := HL.out; omega)).mono ?_; intro e w4 hp; obtain ⟨rfl, hr4⟩ := hp.ok HLR.out; have HR4 := Lib.hid hr4; clear hp hr4 q2 q0)
                | (go_at_call 47; refine (HX.out _ HR4.out).mono ?_; rintro e w5 ⟨rfl, hr5⟩; have HR5 := Lib.hid hr5; clear hr5)
                | (go_at_call 51; refine (must_yes _ _ _).mono ?_; rintro e w6 ⟨rfl, hw6⟩; replace hw6 := hw6.symm; subst hw6))
              go_ret
              exact .inl ⟨T', q, HE.out, rfl, HR5.out.tl, HR5.out.old⟩
            · have HE := Lib.hid (show R = .error (k2, 3) by rw [← hw2, walk_some hnx2, line_behind])
              have HX := Lib.hid (fun W h => next_some w0 W g q L (x :: xs) k' T' h HM.out hnx2)
              clear hw2 hnx2
              go_wp2_with (first
                | (go_at_call 47; with_reducible refine HN2.out.mono ?_; rintro e w3 ⟨rfl, hr3⟩; have HR3 := Lib.hid hr3; obtain ⟨b, cc, q2, q0, hcc⟩ := hr3.word0; clear hr3)
                | (go_at_call 50; refine (end_any w0 _ g q L (x :: xs) k' T HR3.out HWS.out (by have := HL.out; omega)).mono ?_; intro e w4 hp; obtain ⟨rfl, hr4⟩ := hp.ok HLR.out; have HR4 := Lib.hid hr4; clear hp hr4 q2 q0)
                | (go_at_call 47; refine (HX.out _ HR4.out).mono ?_; rintro e w5 ⟨rfl, hr5⟩; have HR5 := Lib.hid hr5; clear hr5)
                | (go_at_call 51; refine (must_no _ _ (k2 : Int) _ HR5.out.one).mono ?_; rintro e w6 ⟨rfl, hw6⟩; replace hw6 := hw6.symm; subst hw6))
              exact ⟨rfl, .inr ⟨k2, 3, HE.out, rfl, HR5.out.old⟩⟩
end Go.Proofs.YtiglhmdiiajmhaaDoor
