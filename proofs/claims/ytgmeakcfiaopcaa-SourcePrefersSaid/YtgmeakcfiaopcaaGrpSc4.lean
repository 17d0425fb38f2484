/- Texts of this seat, one behind the other. -/
import Derived.Test.YtgmeakcfiaopcaaGrpSc1
import Derived.Test.YtgmeakcfiaopcaaGrpSc3
import Derived.BigQuiet
/- Package source: isTime, at, flooded, Time. -/
namespace Go.Proofs.Ytgmeakcfiaopcaa
open Go.RowKit
set_option linter.unusedVariables false
set_option linter.unusedSimpArgs false

theorem one_ans (a b c d e : Int) : ∀ v ∈ ([.int .i64 a, .int .i64 b, .int .i64 c, .int .u16 d, .int .i64 e] : List Value), v.oneCell' = true := by
  intro v hv
  simp only [List.mem_cons, List.not_mem_nil, or_false] at hv
  rcases hv with rfl | rfl | rfl | rfl | rfl <;> rfl
theorem stime_any (t : Int) (w : World) : Calls Try.prog 43 #[.int .i64 t] w fun e w' => e = .returned (.bool (timeB t)) ∧ w = w' := by
  by_cases h1 : 0 ≤ t
  · have d1 : decide (0 ≤ t) = true := decide_eq_true h1
    by_cases h2 : t ≤ 1125899906842624
    · have d2 : decide (t ≤ 1125899906842624) = true := decide_eq_true h2
      have e : timeB t = true := decide_eq_true ⟨h1, h2⟩
      rw [e]
      clear e
      go_enter Try.func43, Try.ntmps43
      go_wp2
      go_ret
      exact ⟨rfl, rfl⟩
    · have d2 : decide (t ≤ 1125899906842624) = false := decide_eq_false h2
      have e : timeB t = false := decide_eq_false (fun k => h2 k.2)
      rw [e]
      clear e
      go_enter Try.func43, Try.ntmps43
      go_wp2
      go_ret
      exact ⟨rfl, rfl⟩
  · have d1 : decide (0 ≤ t) = false := decide_eq_false h1
    have e : timeB t = false := decide_eq_false (fun k => h1 k.1)
    rw [e]
    clear e
    go_enter Try.func43, Try.ntmps43
    go_wp2
    go_ret
    exact ⟨rfl, rfl⟩
/-- While an answer is made: the result's block, nothing older changed; what a call keeps besides. -/
structure Ak (w0 : World) (o : Nat) (rs : Array Value) (w : World) : Prop where
  res : Holds w o 56 rs
  below : Below w0.heap.size w0 w
  new : w0.heap.size ≤ o
section
variable {w0 w w' : World} {o : Nat} {rs : Array Value}
theorem Ak.lt (h : Ak w0 o rs w) : w0.heap.size < w.heap.size := Nat.lt_of_le_of_lt h.new h.res.lt
theorem Ak.next (h : Ak w0 o rs w) (hb : Below w.heap.size w w') : Ak w0 o rs w' := ⟨h.res.below hb h.res.lt, h.below.trans (hb.mono (Nat.le_of_lt h.lt)), h.new⟩
theorem Ak.drewN (h : Ak w0 o rs w) (n : Nat) : Ak w0 o rs (w.drewN n) := h.next (below_drewN (Below.refl _ _) n)
theorem Ak.alloc (h : Ak w0 o rs w) (x : Obj) : Ak w0 o rs (w.alloc x) := h.next (below_alloc _ _)
theorem Ak.answer (h : Ak w0 o rs w) (l : List Value) : Ak w0 o l.toArray (w.setRow o l.toArray) := by
  have hn := h.new
  exact ⟨h.res.row _, Below.chg h.below (Chg.of_grown (grown_row w o l.toArray) (S := fun k => k = o) (fun k e => by cases e; rfl)) (Nat.le_of_lt h.lt) (fun k e => by omega), hn⟩
theorem Ak.other (h : Ak w0 o rs w) (x : Nat) (l : List Value) (hx : o < x) : Ak w0 o rs (w.setRow x l.toArray) := by
  have hc := Chg.of_grown (grown_row w x l.toArray) (S := fun k => k = x) (fun k e => by cases e; rfl)
  have hn := h.new
  exact ⟨h.res.chg hc (fun e => by omega), Below.chg h.below hc (Nat.le_of_lt h.lt) (fun k e => by omega), hn⟩
theorem Ak.set (h : Ak w0 o rs w) (x i : Nat) (u : Value) (hx : o < x) : Ak w0 o rs (w.setCell ⟨x, i, none⟩ u) := by
  have hc := Chg.set (S := fun k => k = x) w x i u rfl
  have hn := h.new
  exact ⟨h.res.chg hc (fun e => by omega), Below.chg h.below hc (Nat.le_of_lt h.lt) (fun k e => by omega), hn⟩
end
theorem Ak.start (w : World) (rs : Array Value) : Ak w w.heap.size rs (w.alloc (.cells rs 56)) := ⟨Holds.new _ _ _, below_alloc _ _, Nat.le_refl _⟩
theorem Ak.two (w : World) (cs rs : Array Value) : Ak w (w.heap.size + 1) rs ((w.alloc (.cells cs 72)).alloc (.cells rs 56)) := by
  have h2 := Holds.new (w.alloc (.cells cs 72)) 56 rs
  rw [size_alloc] at h2
  exact ⟨h2, ((Below.refl _ _).alloc (Nat.le_refl _) _).alloc (by simp) _, Nat.le_succ _⟩
theorem sat_no (w : World) (lo off hp ro bo left l : Int) (ho : -1125899906842624 ≤ off ∧ off ≤ 1125899906842624) (h : timeB l = false ∨ timeB l = true ∧ timeB (l + off) = false) :
    Calls Try.prog 31 #[.agg #[.int .i64 lo, .int .i64 off, .int .i64 hp, .int .i64 ro, .int .u16 bo, .int .i64 left], .int .i64 l] w fun e w' => e = .returned (.tuple #[.agg #[.int .i64 0, .int .i64 0, .int .i64 0, .int .u16 0, .int .i64 0], .int .i64 8]) ∧ Below w.heap.size w w' := by
  have hk := Ak.two w #[.int .i64 lo, .int .i64 off, .int .i64 hp, .int .i64 ro, .int .u16 bo, .int .i64 left] #[.int .i64 0, .int .i64 0, .int .i64 0, .int .u16 0, .int .i64 0]
  have hx := (Holds.new w 72 #[.int .i64 lo, .int .i64 off, .int .i64 hp, .int .i64 ro, .int .u16 bo, .int .i64 left]).alloc (.cells #[.int .i64 0, .int .i64 0, .int .i64 0, .int .u16 0, .int .i64 0] 56)
  obtain ⟨V, hV⟩ : ∃ V, V = (w.alloc (.cells #[.int .i64 lo, .int .i64 off, .int .i64 hp, .int .i64 ro, .int .u16 bo, .int .i64 left] 72)).alloc (.cells #[.int .i64 0, .int .i64 0, .int .i64 0, .int .u16 0, .int .i64 0] 56) := ⟨_, rfl⟩
  rw [← hV] at hk hx
  have HK := Lib.hid hk
  have x1 := hx.cell 1
  have x2 := hx.cell 2
  have x3 := hx.cell 3
  have x4 := hx.cell 4
  have hl := fun W => stime_any l W
  have hsp : splice ([.int .i64 0, .int .i64 0, .int .i64 0, .int .u16 0, .int .i64 0] : List Value) 0 ([.int .i64 0, .int .i64 0, .int .i64 0, .int .u16 0, .int .i64 0] : List Value) = [.int .i64 0, .int .i64 0, .int .i64 0, .int .u16 0, .int .i64 0] := splice_all _ _ rfl
  rcases h with h | ⟨h, h2⟩
  · rw [h] at hl
    clear hk hx h
    go_enter Try.func31, Try.ntmps31
    go_upto_region 1 with fail
    rw [← hV]
    clear hV
    go_wp2_with (first
      | (go_at_call 43; (with_reducible refine (hl _).mono ?_); rintro e wx ⟨rfl, hwx⟩; subst wx)
      | (refine wpList_store_at rfl 56 (.tmp 4) (.tmp 18) rfl (w.heap.size + 1) 0 [.int .i64 0, .int .i64 0, .int .i64 0, .int .u16 0, .int .i64 0] rfl rfl 56 [.int .i64 0, .int .i64 0, .int .i64 0, .int .u16 0, .int .i64 0] HK.out.res (by kernel_rfl) (Nat.le_refl 5) (one_ans _ _ _ _ _) ?_; rw [hsp]; replace HK := Lib.hid (HK.out.answer [.int .i64 0, .int .i64 0, .int .i64 0, .int .u16 0, .int .i64 0])))
    refine bodyPost_ret (results_row_tmp rfl _ _ (w.heap.size + 1) 56 [.int .i64 0, .int .i64 0, .int .i64 0, .int .u16 0, .int .i64 0] _ _ rfl HK.out.res Try.underlying56 rfl (by kernel_rfl) rfl) rfl ?_
    exact ⟨rfl, HK.out.below⟩
  · have hl2 := fun W => stime_any (l + off) W
    rw [h2] at hl2
    rw [h] at hl
    obtain ⟨k0, k1⟩ := (timeB_iff l).1 h
    have ew := IntWalk.i64_in (l + off) (by omega)
    clear hk hx h h2 k0 k1
    go_enter Try.func31, Try.ntmps31
    go_upto_region 1 with fail
    rw [← hV]
    clear hV
    go_wp2_with (first
      | (go_at_call 43; (with_reducible refine (hl _).mono ?_); rintro e wx ⟨rfl, hwx⟩; subst wx)
      | (go_at_call 43; (with_reducible refine (hl2 _).mono ?_); rintro e wx ⟨rfl, hwx⟩; subst wx)
      | (refine wpList_store_at rfl 56 (.tmp 4) (.tmp 18) rfl (w.heap.size + 1) 0 [.int .i64 0, .int .i64 0, .int .i64 0, .int .u16 0, .int .i64 0] rfl rfl 56 [.int .i64 0, .int .i64 0, .int .i64 0, .int .u16 0, .int .i64 0] HK.out.res (by kernel_rfl) (Nat.le_refl 5) (one_ans _ _ _ _ _) ?_; rw [hsp]; replace HK := Lib.hid (HK.out.answer [.int .i64 0, .int .i64 0, .int .i64 0, .int .u16 0, .int .i64 0])))
    refine bodyPost_ret (results_row_tmp rfl _ _ (w.heap.size + 1) 56 [.int .i64 0, .int .i64 0, .int .i64 0, .int .u16 0, .int .i64 0] _ _ rfl HK.out.res Try.underlying56 rfl (by kernel_rfl) rfl) rfl ?_
    exact ⟨rfl, HK.out.below⟩
theorem sat_yes (w : World) (lo off hp ro bo left l : Int) (ho : -1125899906842624 ≤ off ∧ off ≤ 1125899906842624) (h : timeB l = true) (h2 : timeB (l + off) = true) :
    Calls Try.prog 31 #[.agg #[.int .i64 lo, .int .i64 off, .int .i64 hp, .int .i64 ro, .int .u16 bo, .int .i64 left], .int .i64 l] w fun e w' => e = .returned (.tuple #[.agg #[.int .i64 (l + off), .int .i64 hp, .int .i64 ro, .int .u16 bo, .int .i64 3], .int .i64 0]) ∧ Below w.heap.size w w' := by
  have hk := Ak.two w #[.int .i64 lo, .int .i64 off, .int .i64 hp, .int .i64 ro, .int .u16 bo, .int .i64 left] #[.int .i64 0, .int .i64 0, .int .i64 0, .int .u16 0, .int .i64 0]
  have hx := (Holds.new w 72 #[.int .i64 lo, .int .i64 off, .int .i64 hp, .int .i64 ro, .int .u16 bo, .int .i64 left]).alloc (.cells #[.int .i64 0, .int .i64 0, .int .i64 0, .int .u16 0, .int .i64 0] 56)
  obtain ⟨V, hV⟩ : ∃ V, V = (w.alloc (.cells #[.int .i64 lo, .int .i64 off, .int .i64 hp, .int .i64 ro, .int .u16 bo, .int .i64 left] 72)).alloc (.cells #[.int .i64 0, .int .i64 0, .int .i64 0, .int .u16 0, .int .i64 0] 56) := ⟨_, rfl⟩
  rw [← hV] at hk hx
  have HK := Lib.hid hk
  have x1 := hx.cell 1
  have x2 := hx.cell 2
  have x3 := hx.cell 3
  have x4 := hx.cell 4
  have hl := fun W => stime_any l W
  have hsp : splice ([.int .i64 0, .int .i64 0, .int .i64 0, .int .u16 0, .int .i64 0] : List Value) 0 ([.int .i64 0, .int .i64 0, .int .i64 0, .int .u16 0, .int .i64 0] : List Value) = [.int .i64 0, .int .i64 0, .int .i64 0, .int .u16 0, .int .i64 0] := splice_all _ _ rfl
  have hl2 := fun W => stime_any (l + off) W
  have hsp2 : splice ([.int .i64 0, .int .i64 0, .int .i64 0, .int .u16 0, .int .i64 0] : List Value) 0 ([.int .i64 (l + off), .int .i64 hp, .int .i64 ro, .int .u16 bo, .int .i64 3] : List Value) = [.int .i64 (l + off), .int .i64 hp, .int .i64 ro, .int .u16 bo, .int .i64 3] := splice_all _ _ rfl
  rw [h2] at hl2
  rw [h] at hl
  obtain ⟨k0, k1⟩ := (timeB_iff l).1 h
  have ew := IntWalk.i64_in (l + off) (by omega)
  clear hk hx h h2 k0 k1 hsp
  go_enter Try.func31, Try.ntmps31
  go_upto_region 1 with fail
  rw [← hV]
  clear hV
  go_wp2_with (first
    | (go_at_call 43; (with_reducible refine (hl _).mono ?_); rintro e wx ⟨rfl, hwx⟩; subst wx)
    | (go_at_call 43; (with_reducible refine (hl2 _).mono ?_); rintro e wx ⟨rfl, hwx⟩; subst wx)
    | (refine wpList_store_at rfl 56 (.tmp 4) (.tmp 29) rfl (w.heap.size + 1) 0 [.int .i64 (l + off), .int .i64 hp, .int .i64 ro, .int .u16 bo, .int .i64 3] rfl rfl 56 [.int .i64 0, .int .i64 0, .int .i64 0, .int .u16 0, .int .i64 0] HK.out.res (by kernel_rfl) (Nat.le_refl 5) (one_ans _ _ _ _ _) ?_; rw [hsp2]; replace HK := Lib.hid (HK.out.answer [.int .i64 (l + off), .int .i64 hp, .int .i64 ro, .int .u16 bo, .int .i64 3])))
  refine bodyPost_ret (results_row_tmp rfl _ _ (w.heap.size + 1) 56 [.int .i64 (l + off), .int .i64 hp, .int .i64 ro, .int .u16 bo, .int .i64 3] _ _ rfl HK.out.res Try.underlying56 rfl (by kernel_rfl) rfl) rfl ?_
  exact ⟨rfl, HK.out.below⟩
theorem smark_at {w : World} {B g b n : Nat} {s : St} (h : En w B g b n s) {v0 v1 : Int} {c : Bool} (hv : saidV s = (v0, v1)) (hc : saidB s = c) : Calls Try.prog 40 #[.pointer (some ⟨g, 0, none⟩)] w fun e w' => e = .returned (.tuple #[.agg #[.int .u16 v0, .int .u16 v1], .bool c]) ∧ Below w.heap.size w w' := by
  have k := emark_any w B g b n s h
  rw [hv, hc] at k
  exact k
theorem sroot_at {w : World} {B g b n : Nat} {s : St} (h : En w B g b n s) {r : Int} (hr : s.root = r) : Calls Try.prog 16 #[.pointer (some ⟨g, 0, none⟩)] w fun e w' => e = .returned (.int .i64 r) ∧ w = w' := by
  have k := eroot_any w B g b n s h
  rw [hr] at k
  exact k
theorem sfl_no (w : World) (B gf g b n : Nat) (f : FS) (h : Fo w B gf g b n f) (hI : FInv f) (lo t hp v : Int) (ht : Tells f lo t hp v) (hv : v ≠ 0) :
    Calls Try.prog 30 #[.pointer (some ⟨gf, 0, none⟩), .int .i64 lo] w fun e w' => e = .returned (.tuple #[.agg #[.int .i64 0, .int .i64 0, .int .i64 0, .int .u16 0, .int .i64 0], .int .i64 v]) ∧ Below w.heap.size w w' := by
  have htm := ftell_any _ B gf g b n f (h.below (below_alloc w (.cells #[.int .i64 0, .int .i64 0, .int .i64 0, .int .u16 0, .int .i64 0] 56))) hI lo t hp v ht
  have HK := Lib.hid (Ak.start w #[.int .i64 0, .int .i64 0, .int .i64 0, .int .u16 0, .int .i64 0])
  have hsp : splice ([.int .i64 0, .int .i64 0, .int .i64 0, .int .u16 0, .int .i64 0] : List Value) 0 ([.int .i64 0, .int .i64 0, .int .i64 0, .int .u16 0, .int .i64 0] : List Value) = [.int .i64 0, .int .i64 0, .int .i64 0, .int .u16 0, .int .i64 0] := splice_all _ _ rfl
  have dv : (v != 0) = true := by simpa using hv
  clear h hI ht hv
  go_enter Try.func30, Try.ntmps30
  go_wp2_with (first
    | (go_at_call 42; refine htm.mono ?_; rintro e w4 ⟨rfl, hb4⟩; replace HK := Lib.hid (HK.out.next hb4); clear hb4)
    | (refine wpList_store_at rfl 56 (.tmp 4) (.tmp 21) rfl (w.heap.size) 0 [.int .i64 0, .int .i64 0, .int .i64 0, .int .u16 0, .int .i64 0] rfl rfl 56 [.int .i64 0, .int .i64 0, .int .i64 0, .int .u16 0, .int .i64 0] HK.out.res (by kernel_rfl) (Nat.le_refl 5) (one_ans _ _ _ _ _) ?_; rw [hsp]; replace HK := Lib.hid (HK.out.answer [.int .i64 0, .int .i64 0, .int .i64 0, .int .u16 0, .int .i64 0])))
  refine bodyPost_ret (results_row_tmp rfl _ _ (w.heap.size) 56 [.int .i64 0, .int .i64 0, .int .i64 0, .int .u16 0, .int .i64 0] _ _ rfl HK.out.res Try.underlying56 rfl (by kernel_rfl) rfl) rfl ?_
  exact ⟨rfl, HK.out.below⟩
set_option maxHeartbeats 4000000 in
set_option maxRecDepth 100000 in
theorem sfl_yes (w : World) (B gf g b n : Nat) (f : FS) (h : Fo w B gf g b n f) (hI : FInv f) (lo t hp r m0 y : Int) (ht : Tells f lo t hp 0) (hr : f.s.root = r) (hm : (saidV f.s).1 = m0) (hy : (if minB f = true then 1 else 2) = y) :
    Calls Try.prog 30 #[.pointer (some ⟨gf, 0, none⟩), .int .i64 lo] w fun e w' => e = .returned (.tuple #[.agg #[.int .i64 t, .int .i64 hp, .int .i64 r, .int .u16 m0, .int .i64 y], .int .i64 0]) ∧ Below w.heap.size w w' := by
  have hf1 := h.below (below_alloc w (.cells #[.int .i64 0, .int .i64 0, .int .i64 0, .int .u16 0, .int .i64 0] 56))
  have htm := ftell_any _ B gf g b n f hf1 hI lo t hp 0 ht
  have HF := Lib.hid hf1
  have HK := Lib.hid (Ak.start w #[.int .i64 0, .int .i64 0, .int .i64 0, .int .u16 0, .int .i64 0])
  obtain ⟨m1, hm1⟩ : ∃ m1, saidV f.s = (m0, m1) := ⟨_, by rw [← hm]⟩
  obtain ⟨c, hc⟩ : ∃ c, saidB f.s = c := ⟨_, rfl⟩
  have HMk := Lib.hid (fun W (hw : Fo W B gf g b n f) => smark_at hw.node hm1 hc)
  have HRo := Lib.hid (fun W (hw : Fo W B gf g b n f) => sroot_at hw.node hr)
  obtain ⟨X, hX⟩ : ∃ X, minB f = X := ⟨_, rfl⟩
  have HMi := Lib.hid (fun W (hw : Fo W B gf g b n f) => mine_at hw.node (v := X) hX)
  rw [hX] at hy
  have hsp1 : splice ([.int .i64 0, .int .i64 0, .int .i64 0, .int .u16 0, .int .i64 0] : List Value) 0 ([.int .i64 t, .int .i64 hp, .int .i64 r, .int .u16 m0, .int .i64 1] : List Value) = [.int .i64 t, .int .i64 hp, .int .i64 r, .int .u16 m0, .int .i64 1] := splice_all _ _ rfl
  have hsp2 : splice ([.int .i64 0, .int .i64 0, .int .i64 0, .int .u16 0, .int .i64 0] : List Value) 0 ([.int .i64 t, .int .i64 hp, .int .i64 r, .int .u16 m0, .int .i64 2] : List Value) = [.int .i64 t, .int .i64 hp, .int .i64 r, .int .u16 m0, .int .i64 2] := splice_all _ _ rfl
  have dv : ((0 : Int) != 0) = false := rfl
  clear h hI ht hf1 hm1 hc hX hr hm
  go_enter Try.func30, Try.ntmps30
  go_upto_region 5 with (first
    | (go_at_call 42; refine htm.mono ?_; rintro e w4 ⟨rfl, hb4⟩; replace HK := Lib.hid (HK.out.next hb4); replace HF := Lib.hid (HF.out.below hb4); clear hb4; have k0 := HF.out.cells.1; have hmk := HMk.out _ HF.out)
    | (go_at_call 40; refine hmk.mono ?_; rintro e w5 ⟨rfl, hb5⟩; replace HK := Lib.hid (HK.out.next hb5); replace HF := Lib.hid (HF.out.below hb5); clear hb5 k0 hmk))
  have hv1 := HK.out.alloc (.cells #[.int .u16 m0, .int .u16 m1] 80)
  have hv2 := Holds.new w5 80 #[.int .u16 m0, .int .u16 m1]
  have hv3 := HF.out.below (below_alloc w5 (.cells #[.int .u16 m0, .int .u16 m1] 80))
  obtain ⟨V1, hV1⟩ : ∃ V1, V1 = w5.alloc (.cells #[.int .u16 m0, .int .u16 m1] 80) := ⟨_, rfl⟩
  rw [← hV1] at hv1 hv2 hv3 ⊢
  clear hV1
  replace HK : Hid (Ak w w.heap.size _ V1.drew) := Lib.hid (hv1.drewN 1)
  replace HF : Hid (Fo V1.drew B gf g b n f) := Lib.hid (hv3.drewN 1)
  have HM : Hid (Holds V1.drew w5.heap.size 80 _) := Lib.hid (hv2.drewN 1)
  clear hv1 hv2 hv3
  obtain ⟨xm, hxm⟩ : ∃ xm, w5.heap.size = xm := ⟨_, rfl⟩
  rw [hxm] at HM
  simp only [hxm]
  clear hxm
  refine region_turns (fun (w' : World) => w'.cell? ⟨gf, 0, none⟩ = some (.pointer (some ⟨g, 0, none⟩)) ∧ w'.cell? ⟨xm, 0, none⟩ = some (.int .u16 m0)) (fun j => decide (13 ≤ j)) (by kernel_rfl) (⟨HF.out.cells.1, HM.out.cell 0⟩) (fun hS => ?_)
  refine Turns.take hS 0 _ rfl (by kernel_rfl) (by kernel_rfl) (by kernel_rfl) (by kernel_rfl) (fun _ _ _ h => h) (by rfl) (fun w' hS' => by (try dsimp only at hS'); go_split_ands; go_simp; (try with_reducible rfl)) ?_
  simp only [Act.put, List.getElem_toArray, List.getElem_cons_succ, List.getElem_cons_zero, List.setIfInBounds_toArray, List.set_cons_zero, List.set_cons_succ]
  refine Turns.take hS 1 _ rfl (by kernel_rfl) (by kernel_rfl) (by kernel_rfl) (by kernel_rfl) (fun _ _ _ h => h) (by rfl) (fun w' hS' => by (try dsimp only at hS'); go_split_ands; go_simp; (try with_reducible rfl)) ?_
  simp only [Act.put, List.getElem_toArray, List.getElem_cons_succ, List.getElem_cons_zero, List.setIfInBounds_toArray, List.set_cons_zero, List.set_cons_succ]
  refine Turns.take hS 2 _ rfl (by kernel_rfl) (by kernel_rfl) (by kernel_rfl) (by kernel_rfl) (fun _ _ _ h => h) (by rfl) (fun w' hS' => by (try dsimp only at hS'); go_split_ands; go_simp; (try with_reducible rfl)) ?_
  simp only [Act.put, List.getElem_toArray, List.getElem_cons_succ, List.getElem_cons_zero, List.setIfInBounds_toArray, List.set_cons_zero, List.set_cons_succ]
  refine Turns.take hS 3 _ rfl (by kernel_rfl) (by kernel_rfl) (by kernel_rfl) (by kernel_rfl) (fun _ _ _ h => h) (by rfl) (fun w' hS' => by (try dsimp only at hS'); go_split_ands; go_simp; (try with_reducible rfl)) ?_
  simp only [Act.put, List.getElem_toArray, List.getElem_cons_succ, List.getElem_cons_zero, List.setIfInBounds_toArray, List.set_cons_zero, List.set_cons_succ]
  refine Turns.take hS 4 _ rfl (by kernel_rfl) (by kernel_rfl) (by kernel_rfl) (by kernel_rfl) (fun _ _ _ h => h) (by rfl) (fun w' hS' => by (try dsimp only at hS'); go_split_ands; go_simp; (try with_reducible rfl)) ?_
  simp only [Act.put, List.getElem_toArray, List.getElem_cons_succ, List.getElem_cons_zero, List.setIfInBounds_toArray, List.set_cons_zero, List.set_cons_succ]
  refine Turns.take hS 5 _ rfl (by kernel_rfl) (by kernel_rfl) (by kernel_rfl) (by kernel_rfl) (fun _ _ _ h => h) (by rfl) (fun w' hS' => by (try dsimp only at hS'); go_split_ands; go_simp; (try with_reducible rfl)) ?_
  simp only [Act.put, List.getElem_toArray, List.getElem_cons_succ, List.getElem_cons_zero, List.setIfInBounds_toArray, List.set_cons_zero, List.set_cons_succ]
  refine Turns.take hS 7 _ rfl (by kernel_rfl) (by kernel_rfl) (by kernel_rfl) (by kernel_rfl) (fun _ _ _ h => h) (by rfl) (fun w' hS' => by (try dsimp only at hS'); go_split_ands; go_simp; (try with_reducible rfl)) ?_
  simp only [Act.put, List.getElem_toArray, List.getElem_cons_succ, List.getElem_cons_zero, List.setIfInBounds_toArray, List.set_cons_zero, List.set_cons_succ]
  refine Turns.take hS 8 _ rfl (by kernel_rfl) (by kernel_rfl) (by kernel_rfl) (by kernel_rfl) (fun _ _ _ h => h) (by rfl) (fun w' hS' => by (try dsimp only at hS'); go_split_ands; go_simp; (try with_reducible rfl)) ?_
  simp only [Act.put, List.getElem_toArray, List.getElem_cons_succ, List.getElem_cons_zero, List.setIfInBounds_toArray, List.set_cons_zero, List.set_cons_succ]
  refine Turns.either 6 11 rfl rfl (by kernel_rfl) (by rfl) (by rfl) (fun K hK => ?_) (fun K hK => ?_)
  · go_simp
    go_at_call 16
    refine (HRo.out _ HF.out).mono ?_
    rintro e wx ⟨rfl, hwx⟩
    subst wx
    refine hK.out _ _ (show (fun (w' : World) => w'.cell? ⟨gf, 0, none⟩ = some (.pointer (some ⟨g, 0, none⟩)) ∧ w'.cell? ⟨xm, 0, none⟩ = some (.int .u16 m0)) _ from ⟨HF.out.cells.1, HM.out.cell 0⟩) ?_
    clear hK K hS
    have hS := (show (fun (w' : World) => w'.cell? ⟨gf, 0, none⟩ = some (.pointer (some ⟨g, 0, none⟩)) ∧ w'.cell? ⟨xm, 0, none⟩ = some (.int .u16 m0)) _ from ⟨HF.out.cells.1, HM.out.cell 0⟩)
    refine Turns.take hS 9 _ rfl (by kernel_rfl) (by kernel_rfl) (by kernel_rfl) (by kernel_rfl) (fun _ _ _ h => h) (by rfl) (fun w' hS' => by (try dsimp only at hS'); go_split_ands; go_simp; (try with_reducible rfl)) ?_
    simp only [Act.put, List.getElem_toArray, List.getElem_cons_succ, List.getElem_cons_zero, List.setIfInBounds_toArray, List.set_cons_zero, List.set_cons_succ]
    refine Turns.take hS 10 _ rfl (by kernel_rfl) (by kernel_rfl) (by kernel_rfl) (by kernel_rfl) (fun _ _ _ h => h) (by rfl) (fun w' hS' => by (try dsimp only at hS'); go_split_ands; go_simp; (try with_reducible rfl)) ?_
    simp only [Act.put, List.getElem_toArray, List.getElem_cons_succ, List.getElem_cons_zero, List.setIfInBounds_toArray, List.set_cons_zero, List.set_cons_succ]
    refine Turns.next 11 rfl (by kernel_rfl) (by rfl) (fun K hK => ?_)
    go_simp
    have hlt : gf < V1.heap.size ∧ g < V1.heap.size ∧ b < V1.heap.size ∧ w.heap.size < V1.heap.size ∧ xm < V1.heap.size := ⟨HF.out.lt, HF.out.node.lt, HF.out.node.ltb, HK.out.lt, HM.out.lt⟩
    have he := Holds.new V1 56 #[.int .i64 0, .int .i64 0, .int .i64 0, .int .u16 0, .int .i64 0]
    replace HK : Hid (Ak w w.heap.size #[.int .i64 0, .int .i64 0, .int .i64 0, .int .u16 0, .int .i64 0] (V1.alloc (.cells #[.int .i64 0, .int .i64 0, .int .i64 0, .int .u16 0, .int .i64 0] 56)).drew) := Lib.hid (HK.out.alloc (.cells #[.int .i64 0, .int .i64 0, .int .i64 0, .int .u16 0, .int .i64 0] 56))
    replace HF : Hid (Fo (V1.alloc (.cells #[.int .i64 0, .int .i64 0, .int .i64 0, .int .u16 0, .int .i64 0] 56)).drew B gf g b n f) := Lib.hid (HF.out.below (below_alloc _ (.cells #[.int .i64 0, .int .i64 0, .int .i64 0, .int .u16 0, .int .i64 0] 56)))
    replace HM : Hid (Holds (V1.alloc (.cells #[.int .i64 0, .int .i64 0, .int .i64 0, .int .u16 0, .int .i64 0] 56)).drew xm 80 _) := Lib.hid (HM.out.alloc (.cells #[.int .i64 0, .int .i64 0, .int .i64 0, .int .u16 0, .int .i64 0] 56))
    have HE : Hid (Holds (V1.alloc (.cells #[.int .i64 0, .int .i64 0, .int .i64 0, .int .u16 0, .int .i64 0] 56)).drew V1.heap.size 56 _) := Lib.hid he
    obtain ⟨xe, hxe⟩ : ∃ xe, V1.heap.size = xe := ⟨_, rfl⟩
    rw [hxe] at hlt HE
    simp only [hxe]
    obtain ⟨U, hU⟩ : ∃ U, U = (V1.alloc (.cells #[.int .i64 0, .int .i64 0, .int .i64 0, .int .u16 0, .int .i64 0] 56)).drew := ⟨_, rfl⟩
    rw [← hU] at HK HF HM HE ⊢
    have HLT := Lib.hid hlt
    clear hxe hU hlt he
    refine hK.out _ _ (show (fun (w' : World) => w'.cell? ⟨gf, 0, none⟩ = some (.pointer (some ⟨g, 0, none⟩)) ∧ w'.cell? ⟨xm, 0, none⟩ = some (.int .u16 m0)) _ from ⟨HF.out.cells.1, HM.out.cell 0⟩) ?_
    clear hK K hS
    have hS := (show (fun (w' : World) => w'.cell? ⟨gf, 0, none⟩ = some (.pointer (some ⟨g, 0, none⟩)) ∧ w'.cell? ⟨xm, 0, none⟩ = some (.int .u16 m0)) _ from ⟨HF.out.cells.1, HM.out.cell 0⟩)
    refine Turns.next 12 rfl (by kernel_rfl) (by rfl) (fun K hK => ?_)
    simp only [List.getElem_toArray, List.getElem_cons_succ, List.getElem_cons_zero]
    refine wp_store_at 56 (.tmp 11) (.tmp 41) rfl xe 0 [.int .i64 t, .int .i64 hp, .int .i64 r, .int .u16 m0, .int .i64 2] ?hs ?hx 56 [.int .i64 0, .int .i64 0, .int .i64 0, .int .u16 0, .int .i64 0] HE.out (by kernel_rfl) (Nat.le_refl 5) (one_ans _ _ _ _ _) ?_
    case hs => first | rfl | simp [Act.eval, Act.put]
    case hx => first | rfl | simp [Act.eval, Act.put]
    rw [hsp2]
    have hcr := Chg.of_grown (grown_row U xe [.int .i64 t, .int .i64 hp, .int .i64 r, .int .u16 m0, .int .i64 2].toArray) (S := fun k => k = xe) (fun k e => by cases e; rfl)
    replace HK := Lib.hid (HK.out.other xe [.int .i64 t, .int .i64 hp, .int .i64 r, .int .u16 m0, .int .i64 2] HLT.out.2.2.2.1)
    replace HM := Lib.hid (HM.out.chg hcr (fun e => by have := HLT.out; omega))
    replace HF := Lib.hid (HF.out.chg hcr (fun k hk e => by have := HLT.out; rcases hk with q | q | q <;> omega))
    replace HE := Lib.hid (HE.out.row [.int .i64 t, .int .i64 hp, .int .i64 r, .int .u16 m0, .int .i64 2].toArray)
    obtain ⟨W3, hW3⟩ : ∃ W3, W3 = U.setRow xe [.int .i64 t, .int .i64 hp, .int .i64 r, .int .u16 m0, .int .i64 2].toArray := ⟨_, rfl⟩
    rw [← hW3] at HK HM HF HE ⊢
    clear hW3 hcr
    refine hK.out _ _ (show (fun (w' : World) => w'.cell? ⟨gf, 0, none⟩ = some (.pointer (some ⟨g, 0, none⟩)) ∧ w'.cell? ⟨xm, 0, none⟩ = some (.int .u16 m0)) _ from ⟨HF.out.cells.1, HM.out.cell 0⟩) ?_
    clear hK K hS
    have hS := (show (fun (w' : World) => w'.cell? ⟨gf, 0, none⟩ = some (.pointer (some ⟨g, 0, none⟩)) ∧ w'.cell? ⟨xm, 0, none⟩ = some (.int .u16 m0)) _ from ⟨HF.out.cells.1, HM.out.cell 0⟩)
    refine Turns.rest (late_done (by kernel_rfl)) ?_
    refine any_tail 13 (by rfl) (by kernel_rfl) ?_
    simp only [List.drop_succ_cons, List.drop_zero]
    clear hS
    have hmi := HMi.out _ HF.out
    have q0 := HF.out.cells.1
    cases X with
    | true =>
      obtain rfl : y = 1 := by rw [← hy]; rfl
      go_wp2_with (first
        | (go_at_call 17; refine hmi.mono ?_; rintro e w6 ⟨rfl, nq, rfl⟩; replace HK := Lib.hid ((HK.out.drewN nq).set xe 4 (.int .i64 1) HLT.out.2.2.2.1); have he2 := HE.out.drewN nq; have e0 := he2.cell 0; have e1 := he2.cell 1; have e2 := he2.cell 2; have e3 := he2.cell 3; have e4 := he2.cell 4; have s4 := he2.soft 4; clear he2)
        | (refine wpList_store_at rfl 56 (.tmp 4) (.tmp 48) rfl (w.heap.size) 0 [.int .i64 t, .int .i64 hp, .int .i64 r, .int .u16 m0, .int .i64 1] rfl rfl 56 [.int .i64 0, .int .i64 0, .int .i64 0, .int .u16 0, .int .i64 0] HK.out.res (by kernel_rfl) (Nat.le_refl 5) (one_ans _ _ _ _ _) ?_; rw [hsp1]; replace HK := Lib.hid (HK.out.answer [.int .i64 t, .int .i64 hp, .int .i64 r, .int .u16 m0, .int .i64 1])))
      refine bodyPost_ret (results_row_tmp rfl _ _ (w.heap.size) 56 [.int .i64 t, .int .i64 hp, .int .i64 r, .int .u16 m0, .int .i64 1] _ _ rfl HK.out.res Try.underlying56 rfl (by kernel_rfl) rfl) rfl ?_
      exact ⟨rfl, HK.out.below⟩
    | false =>
      obtain rfl : y = 2 := by rw [← hy]; rfl
      go_wp2_with (first
        | (go_at_call 17; refine hmi.mono ?_; rintro e w6 ⟨rfl, nq, rfl⟩; replace HK := Lib.hid (HK.out.drewN nq); have he2 := HE.out.drewN nq; have e0 := he2.cell 0; have e1 := he2.cell 1; have e2 := he2.cell 2; have e3 := he2.cell 3; have e4 := he2.cell 4; clear he2)
        | (refine wpList_store_at rfl 56 (.tmp 4) (.tmp 48) rfl (w.heap.size) 0 [.int .i64 t, .int .i64 hp, .int .i64 r, .int .u16 m0, .int .i64 2] rfl rfl 56 [.int .i64 0, .int .i64 0, .int .i64 0, .int .u16 0, .int .i64 0] HK.out.res (by kernel_rfl) (Nat.le_refl 5) (one_ans _ _ _ _ _) ?_; rw [hsp2]; replace HK := Lib.hid (HK.out.answer [.int .i64 t, .int .i64 hp, .int .i64 r, .int .u16 m0, .int .i64 2])))
      refine bodyPost_ret (results_row_tmp rfl _ _ (w.heap.size) 56 [.int .i64 t, .int .i64 hp, .int .i64 r, .int .u16 m0, .int .i64 2] _ _ rfl HK.out.res Try.underlying56 rfl (by kernel_rfl) rfl) rfl ?_
      exact ⟨rfl, HK.out.below⟩
  · go_simp
    have hlt : gf < V1.heap.size ∧ g < V1.heap.size ∧ b < V1.heap.size ∧ w.heap.size < V1.heap.size ∧ xm < V1.heap.size := ⟨HF.out.lt, HF.out.node.lt, HF.out.node.ltb, HK.out.lt, HM.out.lt⟩
    have he := Holds.new V1 56 #[.int .i64 0, .int .i64 0, .int .i64 0, .int .u16 0, .int .i64 0]
    replace HK : Hid (Ak w w.heap.size #[.int .i64 0, .int .i64 0, .int .i64 0, .int .u16 0, .int .i64 0] (V1.alloc (.cells #[.int .i64 0, .int .i64 0, .int .i64 0, .int .u16 0, .int .i64 0] 56)).drew) := Lib.hid (HK.out.alloc (.cells #[.int .i64 0, .int .i64 0, .int .i64 0, .int .u16 0, .int .i64 0] 56))
    replace HF : Hid (Fo (V1.alloc (.cells #[.int .i64 0, .int .i64 0, .int .i64 0, .int .u16 0, .int .i64 0] 56)).drew B gf g b n f) := Lib.hid (HF.out.below (below_alloc _ (.cells #[.int .i64 0, .int .i64 0, .int .i64 0, .int .u16 0, .int .i64 0] 56)))
    replace HM : Hid (Holds (V1.alloc (.cells #[.int .i64 0, .int .i64 0, .int .i64 0, .int .u16 0, .int .i64 0] 56)).drew xm 80 _) := Lib.hid (HM.out.alloc (.cells #[.int .i64 0, .int .i64 0, .int .i64 0, .int .u16 0, .int .i64 0] 56))
    have HE : Hid (Holds (V1.alloc (.cells #[.int .i64 0, .int .i64 0, .int .i64 0, .int .u16 0, .int .i64 0] 56)).drew V1.heap.size 56 _) := Lib.hid he
    obtain ⟨xe, hxe⟩ : ∃ xe, V1.heap.size = xe := ⟨_, rfl⟩
    rw [hxe] at hlt HE
    simp only [hxe]
    obtain ⟨U, hU⟩ : ∃ U, U = (V1.alloc (.cells #[.int .i64 0, .int .i64 0, .int .i64 0, .int .u16 0, .int .i64 0] 56)).drew := ⟨_, rfl⟩
    rw [← hU] at HK HF HM HE ⊢
    have HLT := Lib.hid hlt
    clear hxe hU hlt he
    refine hK.out _ _ (show (fun (w' : World) => w'.cell? ⟨gf, 0, none⟩ = some (.pointer (some ⟨g, 0, none⟩)) ∧ w'.cell? ⟨xm, 0, none⟩ = some (.int .u16 m0)) _ from ⟨HF.out.cells.1, HM.out.cell 0⟩) ?_
    clear hK K hS
    have hS := (show (fun (w' : World) => w'.cell? ⟨gf, 0, none⟩ = some (.pointer (some ⟨g, 0, none⟩)) ∧ w'.cell? ⟨xm, 0, none⟩ = some (.int .u16 m0)) _ from ⟨HF.out.cells.1, HM.out.cell 0⟩)
    refine Turns.next 6 rfl (by kernel_rfl) (by rfl) (fun K hK => ?_)
    go_simp
    go_at_call 16
    refine (HRo.out _ HF.out).mono ?_
    rintro e wx ⟨rfl, hwx⟩
    subst wx
    refine hK.out _ _ (show (fun (w' : World) => w'.cell? ⟨gf, 0, none⟩ = some (.pointer (some ⟨g, 0, none⟩)) ∧ w'.cell? ⟨xm, 0, none⟩ = some (.int .u16 m0)) _ from ⟨HF.out.cells.1, HM.out.cell 0⟩) ?_
    clear hK K hS
    have hS := (show (fun (w' : World) => w'.cell? ⟨gf, 0, none⟩ = some (.pointer (some ⟨g, 0, none⟩)) ∧ w'.cell? ⟨xm, 0, none⟩ = some (.int .u16 m0)) _ from ⟨HF.out.cells.1, HM.out.cell 0⟩)
    refine Turns.take hS 9 _ rfl (by kernel_rfl) (by kernel_rfl) (by kernel_rfl) (by kernel_rfl) (fun _ _ _ h => h) (by rfl) (fun w' hS' => by (try dsimp only at hS'); go_split_ands; go_simp; (try with_reducible rfl)) ?_
    simp only [Act.put, List.getElem_toArray, List.getElem_cons_succ, List.getElem_cons_zero, List.setIfInBounds_toArray, List.set_cons_zero, List.set_cons_succ]
    refine Turns.take hS 10 _ rfl (by kernel_rfl) (by kernel_rfl) (by kernel_rfl) (by kernel_rfl) (fun _ _ _ h => h) (by rfl) (fun w' hS' => by (try dsimp only at hS'); go_split_ands; go_simp; (try with_reducible rfl)) ?_
    simp only [Act.put, List.getElem_toArray, List.getElem_cons_succ, List.getElem_cons_zero, List.setIfInBounds_toArray, List.set_cons_zero, List.set_cons_succ]
    refine Turns.next 12 rfl (by kernel_rfl) (by rfl) (fun K hK => ?_)
    simp only [List.getElem_toArray, List.getElem_cons_succ, List.getElem_cons_zero]
    refine wp_store_at 56 (.tmp 11) (.tmp 41) rfl xe 0 [.int .i64 t, .int .i64 hp, .int .i64 r, .int .u16 m0, .int .i64 2] ?hs ?hx 56 [.int .i64 0, .int .i64 0, .int .i64 0, .int .u16 0, .int .i64 0] HE.out (by kernel_rfl) (Nat.le_refl 5) (one_ans _ _ _ _ _) ?_
    case hs => first | rfl | simp [Act.eval, Act.put]
    case hx => first | rfl | simp [Act.eval, Act.put]
    rw [hsp2]
    have hcr := Chg.of_grown (grown_row U xe [.int .i64 t, .int .i64 hp, .int .i64 r, .int .u16 m0, .int .i64 2].toArray) (S := fun k => k = xe) (fun k e => by cases e; rfl)
    replace HK := Lib.hid (HK.out.other xe [.int .i64 t, .int .i64 hp, .int .i64 r, .int .u16 m0, .int .i64 2] HLT.out.2.2.2.1)
    replace HM := Lib.hid (HM.out.chg hcr (fun e => by have := HLT.out; omega))
    replace HF := Lib.hid (HF.out.chg hcr (fun k hk e => by have := HLT.out; rcases hk with q | q | q <;> omega))
    replace HE := Lib.hid (HE.out.row [.int .i64 t, .int .i64 hp, .int .i64 r, .int .u16 m0, .int .i64 2].toArray)
    obtain ⟨W3, hW3⟩ : ∃ W3, W3 = U.setRow xe [.int .i64 t, .int .i64 hp, .int .i64 r, .int .u16 m0, .int .i64 2].toArray := ⟨_, rfl⟩
    rw [← hW3] at HK HM HF HE ⊢
    clear hW3 hcr
    refine hK.out _ _ (show (fun (w' : World) => w'.cell? ⟨gf, 0, none⟩ = some (.pointer (some ⟨g, 0, none⟩)) ∧ w'.cell? ⟨xm, 0, none⟩ = some (.int .u16 m0)) _ from ⟨HF.out.cells.1, HM.out.cell 0⟩) ?_
    clear hK K hS
    have hS := (show (fun (w' : World) => w'.cell? ⟨gf, 0, none⟩ = some (.pointer (some ⟨g, 0, none⟩)) ∧ w'.cell? ⟨xm, 0, none⟩ = some (.int .u16 m0)) _ from ⟨HF.out.cells.1, HM.out.cell 0⟩)
    refine Turns.rest (late_done (by kernel_rfl)) ?_
    refine any_tail 13 (by rfl) (by kernel_rfl) ?_
    simp only [List.drop_succ_cons, List.drop_zero]
    clear hS
    have hmi := HMi.out _ HF.out
    have q0 := HF.out.cells.1
    cases X with
    | true =>
      obtain rfl : y = 1 := by rw [← hy]; rfl
      go_wp2_with (first
        | (go_at_call 17; refine hmi.mono ?_; rintro e w6 ⟨rfl, nq, rfl⟩; replace HK := Lib.hid ((HK.out.drewN nq).set xe 4 (.int .i64 1) HLT.out.2.2.2.1); have he2 := HE.out.drewN nq; have e0 := he2.cell 0; have e1 := he2.cell 1; have e2 := he2.cell 2; have e3 := he2.cell 3; have e4 := he2.cell 4; have s4 := he2.soft 4; clear he2)
        | (refine wpList_store_at rfl 56 (.tmp 4) (.tmp 48) rfl (w.heap.size) 0 [.int .i64 t, .int .i64 hp, .int .i64 r, .int .u16 m0, .int .i64 1] rfl rfl 56 [.int .i64 0, .int .i64 0, .int .i64 0, .int .u16 0, .int .i64 0] HK.out.res (by kernel_rfl) (Nat.le_refl 5) (one_ans _ _ _ _ _) ?_; rw [hsp1]; replace HK := Lib.hid (HK.out.answer [.int .i64 t, .int .i64 hp, .int .i64 r, .int .u16 m0, .int .i64 1])))
      refine bodyPost_ret (results_row_tmp rfl _ _ (w.heap.size) 56 [.int .i64 t, .int .i64 hp, .int .i64 r, .int .u16 m0, .int .i64 1] _ _ rfl HK.out.res Try.underlying56 rfl (by kernel_rfl) rfl) rfl ?_
      exact ⟨rfl, HK.out.below⟩
    | false =>
      obtain rfl : y = 2 := by rw [← hy]; rfl
      go_wp2_with (first
        | (go_at_call 17; refine hmi.mono ?_; rintro e w6 ⟨rfl, nq, rfl⟩; replace HK := Lib.hid (HK.out.drewN nq); have he2 := HE.out.drewN nq; have e0 := he2.cell 0; have e1 := he2.cell 1; have e2 := he2.cell 2; have e3 := he2.cell 3; have e4 := he2.cell 4; clear he2)
        | (refine wpList_store_at rfl 56 (.tmp 4) (.tmp 48) rfl (w.heap.size) 0 [.int .i64 t, .int .i64 hp, .int .i64 r, .int .u16 m0, .int .i64 2] rfl rfl 56 [.int .i64 0, .int .i64 0, .int .i64 0, .int .u16 0, .int .i64 0] HK.out.res (by kernel_rfl) (Nat.le_refl 5) (one_ans _ _ _ _ _) ?_; rw [hsp2]; replace HK := Lib.hid (HK.out.answer [.int .i64 t, .int .i64 hp, .int .i64 r, .int .u16 m0, .int .i64 2])))
      refine bodyPost_ret (results_row_tmp rfl _ _ (w.heap.size) 56 [.int .i64 t, .int .i64 hp, .int .i64 r, .int .u16 m0, .int .i64 2] _ _ rfl HK.out.res Try.underlying56 rfl (by kernel_rfl) rfl) rfl ?_
      exact ⟨rfl, HK.out.below⟩
end Go.Proofs.Ytgmeakcfiaopcaa

/- Package source: Time. -/
namespace Go.Proofs.Ytgmeakcfiaopcaa
open Go.RowKit
set_option linter.unusedVariables false
set_option linter.unusedSimpArgs false

/-- What Time answers: the time, over how many hops, whose, how; the error. -/
def STime (f : FS) (a : AS) (lo t hp r b y v : Int) : Prop :=
  (synB f = true ∧ ∃ t' hp' v', Tells f lo t' hp' v' ∧ (v' = 0 ∧ t = t' ∧ hp = hp' ∧ r = f.s.root ∧ b = (saidV f.s).1 ∧ y = (if minB f = true then 1 else 2) ∧ v = 0 ∨ v' ≠ 0 ∧ t = 0 ∧ hp = 0 ∧ r = 0 ∧ b = 0 ∧ y = 0 ∧ v = v')) ∨
  (synB f = false ∧ afreshB a = false ∧ t = 0 ∧ hp = 0 ∧ r = 0 ∧ b = 0 ∧ y = 0 ∧ v = 9) ∨
  (synB f = false ∧ afreshB a = true ∧ (timeB lo = false ∨ timeB lo = true ∧ timeB (lo + a.off) = false) ∧ t = 0 ∧ hp = 0 ∧ r = 0 ∧ b = 0 ∧ y = 0 ∧ v = 8) ∨
  (synB f = false ∧ afreshB a = true ∧ timeB lo = true ∧ timeB (lo + a.off) = true ∧ t = lo + a.off ∧ hp = a.hp ∧ r = a.ro ∧ b = a.bo ∧ y = 3 ∧ v = 0)
theorem stime_is (f : FS) (a : AS) (lo : Int) : ∃ t hp r b y v, STime f a lo t hp r b y v := by
  cases h1 : synB f with
  | true =>
    obtain ⟨t', hp', v', ht⟩ := tells_is f lo
    by_cases hv : v' = 0
    · exact ⟨_, _, _, _, _, _, .inl ⟨h1, t', hp', v', ht, .inl ⟨hv, rfl, rfl, rfl, rfl, rfl, rfl⟩⟩⟩
    · exact ⟨_, _, _, _, _, _, .inl ⟨h1, t', hp', v', ht, .inr ⟨hv, rfl, rfl, rfl, rfl, rfl, rfl⟩⟩⟩
  | false =>
    cases h2 : afreshB a with
    | false => exact ⟨_, _, _, _, _, _, .inr (.inl ⟨h1, h2, rfl, rfl, rfl, rfl, rfl, rfl⟩)⟩
    | true =>
      cases h3 : timeB lo with
      | false => exact ⟨_, _, _, _, _, _, .inr (.inr (.inl ⟨h1, h2, .inl h3, rfl, rfl, rfl, rfl, rfl, rfl⟩))⟩
      | true =>
        cases h4 : timeB (lo + a.off) with
        | false => exact ⟨_, _, _, _, _, _, .inr (.inr (.inl ⟨h1, h2, .inr ⟨h3, h4⟩, rfl, rfl, rfl, rfl, rfl, rfl⟩))⟩
        | true => exact ⟨_, _, _, _, _, _, .inr (.inr (.inr ⟨h1, h2, h3, h4, rfl, rfl, rfl, rfl, rfl, rfl⟩))⟩
theorem stell_nils (w : World) (p : Value) (lo : Int) (hp : ∃ x, p = .pointer x) : Calls Try.prog 14 #[.pointer none, p, .int .i64 lo] w fun e w' => e = .returned (.tuple #[.agg #[.int .i64 0, .int .i64 0, .int .i64 0, .int .u16 0, .int .i64 0], .int .i64 2]) ∧ Below w.heap.size w w' := by
  obtain ⟨x, rfl⟩ := hp
  have HK := Lib.hid (Ak.start w #[.int .i64 0, .int .i64 0, .int .i64 0, .int .u16 0, .int .i64 0])
  have hsp : splice ([.int .i64 0, .int .i64 0, .int .i64 0, .int .u16 0, .int .i64 0] : List Value) 0 ([.int .i64 0, .int .i64 0, .int .i64 0, .int .u16 0, .int .i64 0] : List Value) = [.int .i64 0, .int .i64 0, .int .i64 0, .int .u16 0, .int .i64 0] := splice_all _ _ rfl
  go_enter Try.func14, Try.ntmps14
  go_wp2_with (refine wpList_store_at rfl 56 (.tmp 6) (.tmp 14) rfl (w.heap.size) 0 [.int .i64 0, .int .i64 0, .int .i64 0, .int .u16 0, .int .i64 0] rfl rfl 56 [.int .i64 0, .int .i64 0, .int .i64 0, .int .u16 0, .int .i64 0] HK.out.res (by kernel_rfl) (Nat.le_refl 5) (one_ans _ _ _ _ _) ?_; rw [hsp]; replace HK := Lib.hid (HK.out.answer [.int .i64 0, .int .i64 0, .int .i64 0, .int .u16 0, .int .i64 0]))
  refine bodyPost_ret (results_row_tmp rfl _ _ (w.heap.size) 56 [.int .i64 0, .int .i64 0, .int .i64 0, .int .u16 0, .int .i64 0] _ _ rfl HK.out.res Try.underlying56 rfl (by kernel_rfl) rfl) rfl ?_
  exact ⟨rfl, HK.out.below⟩
theorem stell_nilf (w : World) (gs : Nat) (lo : Int) : Calls Try.prog 14 #[.pointer (some ⟨gs, 0, none⟩), .pointer none, .int .i64 lo] w fun e w' => e = .returned (.tuple #[.agg #[.int .i64 0, .int .i64 0, .int .i64 0, .int .u16 0, .int .i64 0], .int .i64 2]) ∧ Below w.heap.size w w' := by
  have HK := Lib.hid (Ak.start w #[.int .i64 0, .int .i64 0, .int .i64 0, .int .u16 0, .int .i64 0])
  have hsp : splice ([.int .i64 0, .int .i64 0, .int .i64 0, .int .u16 0, .int .i64 0] : List Value) 0 ([.int .i64 0, .int .i64 0, .int .i64 0, .int .u16 0, .int .i64 0] : List Value) = [.int .i64 0, .int .i64 0, .int .i64 0, .int .u16 0, .int .i64 0] := splice_all _ _ rfl
  go_enter Try.func14, Try.ntmps14
  go_wp2_with (refine wpList_store_at rfl 56 (.tmp 6) (.tmp 14) rfl (w.heap.size) 0 [.int .i64 0, .int .i64 0, .int .i64 0, .int .u16 0, .int .i64 0] rfl rfl 56 [.int .i64 0, .int .i64 0, .int .i64 0, .int .u16 0, .int .i64 0] HK.out.res (by kernel_rfl) (Nat.le_refl 5) (one_ans _ _ _ _ _) ?_; rw [hsp]; replace HK := Lib.hid (HK.out.answer [.int .i64 0, .int .i64 0, .int .i64 0, .int .u16 0, .int .i64 0]))
  refine bodyPost_ret (results_row_tmp rfl _ _ (w.heap.size) 56 [.int .i64 0, .int .i64 0, .int .i64 0, .int .u16 0, .int .i64 0] _ _ rfl HK.out.res Try.underlying56 rfl (by kernel_rfl) rfl) rfl ?_
  exact ⟨rfl, HK.out.below⟩
set_option maxHeartbeats 4000000 in
set_option maxRecDepth 100000 in
theorem stell_any (w : World) (B gf g b n gs : Nat) (f : FS) (a : AS) (h : Fo w B gf g b n f) (hS : Sq w gs a) (hI : FInv f) (hA : AInv a) (lo t hp r b' y v : Int) (ht : STime f a lo t hp r b' y v) :
    Calls Try.prog 14 #[.pointer (some ⟨gs, 0, none⟩), .pointer (some ⟨gf, 0, none⟩), .int .i64 lo] w fun e w' => e = .returned (.tuple #[.agg #[.int .i64 t, .int .i64 hp, .int .i64 r, .int .u16 b', .int .i64 y], .int .i64 v]) ∧ Below w.heap.size w w' := by
  have hb0 := below_alloc w (.cells #[.int .i64 0, .int .i64 0, .int .i64 0, .int .u16 0, .int .i64 0] 56)
  have hf1 := h.below hb0
  have hs1 := hS.below hb0 (Holds.lt hS)
  have hsy := synced_any _ B gf g b n f hf1
  have HF := Lib.hid hf1
  have HS := Lib.hid hs1
  have HK := Lib.hid (Ak.start w #[.int .i64 0, .int .i64 0, .int .i64 0, .int .u16 0, .int .i64 0])
  have hao := hA.off
  have hsp : splice ([.int .i64 0, .int .i64 0, .int .i64 0, .int .u16 0, .int .i64 0] : List Value) 0 ([.int .i64 0, .int .i64 0, .int .i64 0, .int .u16 0, .int .i64 0] : List Value) = [.int .i64 0, .int .i64 0, .int .i64 0, .int .u16 0, .int .i64 0] := splice_all _ _ rfl
  have hspx : splice ([.int .i64 0, .int .i64 0, .int .i64 0, .int .u16 0, .int .i64 0] : List Value) 0 ([.int .i64 t, .int .i64 hp, .int .i64 r, .int .u16 b', .int .i64 y] : List Value) = [.int .i64 t, .int .i64 hp, .int .i64 r, .int .u16 b', .int .i64 y] := splice_all _ _ rfl
  rcases ht with ⟨e1, t', hp', v', ht, hout⟩ | ⟨e1, e2, rfl, rfl, rfl, rfl, rfl, rfl⟩ | ⟨e1, e2, e3, rfl, rfl, rfl, rfl, rfl, rfl⟩ | ⟨e1, e2, e3, e4, rfl, rfl, rfl, rfl, rfl, rfl⟩
  · rw [e1] at hsy
    have HFl : Hid (∀ W, Fo W B gf g b n f → Calls Try.prog 30 #[.pointer (some ⟨gf, 0, none⟩), .int .i64 lo] W fun e w' => e = .returned (.tuple #[.agg #[.int .i64 t, .int .i64 hp, .int .i64 r, .int .u16 b', .int .i64 y], .int .i64 v]) ∧ Below W.heap.size W w') := Lib.hid fun W hw => by
      rcases hout with ⟨rfl, rfl, rfl, rfl, rfl, rfl, rfl⟩ | ⟨hv, rfl, rfl, rfl, rfl, rfl, rfl⟩
      · exact sfl_yes W B gf g b n f hw hI lo _ _ _ _ _ ht rfl rfl rfl
      · exact sfl_no W B gf g b n f hw hI lo _ _ _ ht hv
    clear h hS hI hA hf1 hs1 hb0 ht hout e1 hsp hao
    go_enter Try.func14, Try.ntmps14
    go_wp2_with (first
      | (go_at_call 15; refine hsy.mono ?_; rintro e w2 ⟨rfl, nq, rfl⟩; replace HK := Lib.hid (HK.out.drewN nq); have hfl := HFl.out _ (HF.out.drewN nq))
      | (go_at_call 30; refine hfl.mono ?_; rintro e w3 ⟨rfl, hb3⟩; replace HK := Lib.hid (HK.out.next hb3); clear hb3 hfl)
      | (refine wpList_store_at rfl 56 (.tmp 6) (.tmp 20) rfl (w.heap.size) 0 [.int .i64 t, .int .i64 hp, .int .i64 r, .int .u16 b', .int .i64 y] rfl rfl 56 [.int .i64 0, .int .i64 0, .int .i64 0, .int .u16 0, .int .i64 0] HK.out.res (by kernel_rfl) (Nat.le_refl 5) (one_ans _ _ _ _ _) ?_; rw [hspx]; replace HK := Lib.hid (HK.out.answer [.int .i64 t, .int .i64 hp, .int .i64 r, .int .u16 b', .int .i64 y])))
    refine bodyPost_ret (results_row_tmp rfl _ _ (w.heap.size) 56 [.int .i64 t, .int .i64 hp, .int .i64 r, .int .u16 b', .int .i64 y] _ _ rfl HK.out.res Try.underlying56 rfl (by kernel_rfl) rfl) rfl ?_
    exact ⟨rfl, HK.out.below⟩
  · rw [e1] at hsy
    have HFr := Lib.hid (fun W (hw : Sq W gs a) => sfresh_any W gs a hw)
    rw [e2] at HFr
    clear h hS hI hA hf1 hs1 hb0 e1 e2 hspx hao
    go_enter Try.func14, Try.ntmps14
    go_wp2_with (first
      | (go_at_call 15; refine hsy.mono ?_; rintro e w2 ⟨rfl, nq, rfl⟩; replace HK := Lib.hid (HK.out.drewN nq); have hfr := HFr.out _ (Holds.drewN HS.out nq))
      | (go_at_call 18; refine hfr.mono ?_; rintro e wx ⟨rfl, hwx⟩; subst wx)
      | (refine wpList_store_at rfl 56 (.tmp 6) (.tmp 25) rfl (w.heap.size) 0 [.int .i64 0, .int .i64 0, .int .i64 0, .int .u16 0, .int .i64 0] rfl rfl 56 [.int .i64 0, .int .i64 0, .int .i64 0, .int .u16 0, .int .i64 0] HK.out.res (by kernel_rfl) (Nat.le_refl 5) (one_ans _ _ _ _ _) ?_; rw [hsp]; replace HK := Lib.hid (HK.out.answer [.int .i64 0, .int .i64 0, .int .i64 0, .int .u16 0, .int .i64 0])))
    refine bodyPost_ret (results_row_tmp rfl _ _ (w.heap.size) 56 [.int .i64 0, .int .i64 0, .int .i64 0, .int .u16 0, .int .i64 0] _ _ rfl HK.out.res Try.underlying56 rfl (by kernel_rfl) rfl) rfl ?_
    exact ⟨rfl, HK.out.below⟩
  · rw [e1] at hsy
    have HFr := Lib.hid (fun W (hw : Sq W gs a) => sfresh_any W gs a hw)
    rw [e2] at HFr
    obtain ⟨a0, a1, a2, a3, a4, a5, a6⟩ := a
    have hat := fun W => sat_no W a1 a2 a3 a4 a5 a6 lo hao e3
    clear h hS hI hA hf1 hs1 hb0 e1 e2 e3 hao hspx
    go_enter Try.func14, Try.ntmps14
    go_wp2_with (first
      | (go_at_call 15; refine hsy.mono ?_; rintro e w2 ⟨rfl, nq, rfl⟩; replace HK := Lib.hid (HK.out.drewN nq); have hs2 := Holds.drewN HS.out nq; have hfr := HFr.out _ hs2; have z1 := Sq.c1 hs2; have z2 := Sq.c2 hs2; have z3 := Sq.c3 hs2; have z4 := Sq.c4 hs2; have z5 := Sq.c5 hs2; have z6 := Sq.c6 hs2; clear hs2; dsimp only at z1 z2 z3 z4 z5 z6)
      | (go_at_call 18; refine hfr.mono ?_; rintro e wx ⟨rfl, hwx⟩; subst wx)
      | (go_at_call 31; refine (hat _).mono ?_; rintro e w3 ⟨rfl, hb3⟩; replace HK := Lib.hid (HK.out.next hb3); clear hb3)
      | (refine wpList_store_at rfl 56 (.tmp 6) (.tmp 32) rfl (w.heap.size) 0 [.int .i64 0, .int .i64 0, .int .i64 0, .int .u16 0, .int .i64 0] rfl rfl 56 [.int .i64 0, .int .i64 0, .int .i64 0, .int .u16 0, .int .i64 0] HK.out.res (by kernel_rfl) (Nat.le_refl 5) (one_ans _ _ _ _ _) ?_; rw [hsp]; replace HK := Lib.hid (HK.out.answer [.int .i64 0, .int .i64 0, .int .i64 0, .int .u16 0, .int .i64 0])))
    refine bodyPost_ret (results_row_tmp rfl _ _ (w.heap.size) 56 [.int .i64 0, .int .i64 0, .int .i64 0, .int .u16 0, .int .i64 0] _ _ rfl HK.out.res Try.underlying56 rfl (by kernel_rfl) rfl) rfl ?_
    exact ⟨rfl, HK.out.below⟩
  · rw [e1] at hsy
    have HFr := Lib.hid (fun W (hw : Sq W gs a) => sfresh_any W gs a hw)
    rw [e2] at HFr
    obtain ⟨a0, a1, a2, a3, a4, a5, a6⟩ := a
    have hat := fun W => sat_yes W a1 a2 a3 a4 a5 a6 lo hao e3 e4
    clear h hS hI hA hf1 hs1 hb0 e1 e2 e3 hao hsp e4
    go_enter Try.func14, Try.ntmps14
    go_wp2_with (first
      | (go_at_call 15; refine hsy.mono ?_; rintro e w2 ⟨rfl, nq, rfl⟩; replace HK := Lib.hid (HK.out.drewN nq); have hs2 := Holds.drewN HS.out nq; have hfr := HFr.out _ hs2; have z1 := Sq.c1 hs2; have z2 := Sq.c2 hs2; have z3 := Sq.c3 hs2; have z4 := Sq.c4 hs2; have z5 := Sq.c5 hs2; have z6 := Sq.c6 hs2; clear hs2; dsimp only at z1 z2 z3 z4 z5 z6)
      | (go_at_call 18; refine hfr.mono ?_; rintro e wx ⟨rfl, hwx⟩; subst wx)
      | (go_at_call 31; refine (hat _).mono ?_; rintro e w3 ⟨rfl, hb3⟩; replace HK := Lib.hid (HK.out.next hb3); clear hb3)
      | (refine wpList_store_at rfl 56 (.tmp 6) (.tmp 32) rfl (w.heap.size) 0 [.int .i64 (lo + a2), .int .i64 a3, .int .i64 a4, .int .u16 a5, .int .i64 3] rfl rfl 56 [.int .i64 0, .int .i64 0, .int .i64 0, .int .u16 0, .int .i64 0] HK.out.res (by kernel_rfl) (Nat.le_refl 5) (one_ans _ _ _ _ _) ?_; rw [hspx]; replace HK := Lib.hid (HK.out.answer [.int .i64 (lo + a2), .int .i64 a3, .int .i64 a4, .int .u16 a5, .int .i64 3])))
    refine bodyPost_ret (results_row_tmp rfl _ _ (w.heap.size) 56 [.int .i64 (lo + a2), .int .i64 a3, .int .i64 a4, .int .u16 a5, .int .i64 3] _ _ rfl HK.out.res Try.underlying56 rfl (by kernel_rfl) rfl) rfl ?_
    exact ⟨rfl, HK.out.below⟩
end Go.Proofs.Ytgmeakcfiaopcaa

/- Package flood: a word is passed on. -/
namespace Go.Proofs.Ytgmeakcfiaopcaa
open Go.RowKit
set_option linter.unusedVariables false
set_option linter.unusedSimpArgs false

def zeroW : List Value := [.int .i64 0, .int .i64 0, .int .u16 0, .int .u16 0, .int .i64 0, .int .i64 0]
def wordC (W : W6) : List Value := [.int .i64 W.1, .int .i64 W.2.1, .int .u16 W.2.2.1, .int .u16 W.2.2.2.1, .int .i64 W.2.2.2.2.1, .int .i64 W.2.2.2.2.2]
theorem wordC_one (W : W6) : ∀ v ∈ wordC W, v.oneCell' = true := by
  intro v hv
  simp only [wordC, List.mem_cons, List.not_mem_nil, or_false] at hv
  rcases hv with rfl | rfl | rfl | rfl | rfl | rfl <;> rfl
theorem sync_size : (Try.prog.info? 48).map (·.size) = some 6 := by kernel_rfl
theorem said16 {s : St} (h : Inv s) : F16 (saidV s).1 ∧ F16 (saidV s).2 := by
  unfold saidV
  split
  · exact ⟨h.boot, h.seq⟩
  · split
    · exact ⟨⟨by decide, by decide⟩, ⟨by decide, by decide⟩⟩
    · cases hf : s.f s.root with
      | none => exact ⟨⟨by decide, by decide⟩, ⟨by decide, by decide⟩⟩
      | some p => exact h.marks _ _ hf
/-- A word's variable is written whole. -/
theorem word_put {w0 V : World} {C : List Value} (h : Box w0 48 C.toArray V) (hC : C.length = 6) (W : W6) : Box w0 48 (wordC W).toArray (V.setRow w0.heap.size (splice C 0 (wordC W)).toArray) := by
  rw [splice_all C (wordC W) (by rw [hC]; rfl)]
  exact ⟨h.holds.row _, Below.chg h.below (Chg.of_grown (grown_row V w0.heap.size _) (S := fun k => w0.heap.size ≤ k) (fun k e => by cases e; exact Nat.le_refl _)) h.below.size (fun k hk => hk)⟩
set_option maxHeartbeats 400000 in
set_option maxRecDepth 100000 in
theorem pass_any (w : World) (B gf g b n : Nat) (f : FS) (h : Fo w B gf g b n f) (hI : FInv f) (h1 : minB f = false) (h2 : synB f = true) (lo : Int) (hlo : timeB lo = true) (W : W6) (ok : Bool)
    (hs : timeB (f.pg + (lo - f.pl)) = true ∧ W = (f.s.me, f.s.root, (saidV f.s).1, (saidV f.s).2, f.ph, f.pg + (lo - f.pl)) ∧ ok = true ∨ timeB (f.pg + (lo - f.pl)) = false ∧ W = noW ∧ ok = false) :
    Calls Try.prog 28 #[.pointer (some ⟨gf, 0, none⟩), .int .i64 lo] w fun e w' => e = .returned (.tuple #[wordV W, .bool ok]) ∧ Below w.heap.size w w' := by
  have HR := Lib.hid (Box.start w 48 #[.int .i64 0, .int .i64 0, .int .u16 0, .int .u16 0, .int .i64 0, .int .i64 0])
  have HF := Lib.hid (fun V (hb : Below w.heap.size w V) => h.below hb)
  have hmk := mark_at (HF.out _ HR.out.below).node
  obtain ⟨l0, l1⟩ := (timeB_iff lo).1 hlo
  obtain ⟨pl0, pl1⟩ := hI.pl
  obtain ⟨pg0, pg1⟩ := hI.pg
  have hroot := hI.s.root
  have hme := hI.s.me
  have hk0 := hI.know (syn_some hI h1 h2)
  have hph := hI.ph
  have e1 := IntWalk.i64_in (lo - f.pl) (by omega)
  have e2 := IntWalk.i64_in (f.pg + (lo - f.pl)) (by omega)
  have hT : Fits (f.pg + (lo - f.pl)) := ⟨by omega, by omega⟩
  have hgood : wgoodB f.s.me f.s.root f.ph (f.pg + (lo - f.pl)) = timeB (f.pg + (lo - f.pl)) := by
    unfold wgoodB
    rw [decide_eq_true (show 0 ≤ f.s.me ∧ f.s.me ≤ 63 by omega), decide_eq_true (show 0 ≤ f.s.root ∧ f.s.root ≤ 63 by omega), decide_eq_true (show 0 ≤ f.ph ∧ f.ph ≤ 63 by omega)]
    rfl
  have hmarks : F16 (saidV f.s).1 ∧ F16 (saidV f.s).2 := said16 hI.s
  have hgd := fun V => wgood_any f.s.me f.s.root (saidV f.s).1 (saidV f.s).2 f.ph (f.pg + (lo - f.pl)) V ⟨by omega, by omega⟩ ⟨by omega, by omega⟩ hmarks.1 hmarks.2 ⟨by omega, by omega⟩ hT
  rw [hgood] at hgd
  obtain ⟨T, hTT⟩ : ∃ T, f.pg + (lo - f.pl) = T := ⟨_, rfl⟩
  obtain ⟨m0, m1, hm⟩ : ∃ m0 m1, saidV f.s = (m0, m1) := ⟨_, _, rfl⟩
  have hwd := fun V (hb : Below w.heap.size w V) => word_any V B gf g b n f (HF.out V hb) m0 m1 f.pl T f.ph
  have hcl := fun V (hb : Below w.heap.size w V) => (HF.out V hb).cells
  rw [hm] at hmk hgd hs
  rw [hTT] at e2 hgd hs
  obtain ⟨q, hq⟩ : ∃ q, timeB T = q := ⟨_, rfl⟩
  rw [hq] at hgd hs
  simp only [hm, hTT] at hs
  have HW := Lib.hid hwd
  have HCl := Lib.hid hcl
  have HG := Lib.hid hgd
  have hg0 := (HCl.out _ HR.out.below).1
  clear h hI h1 h2 hlo l0 l1 pl0 pl1 pg0 pg1 hroot hme hk0 hph hT hgood hmarks hwd hcl hgd hq hm
  unfold wordV at HW
  rcases hs with ⟨rfl, rfl, rfl⟩ | ⟨rfl, rfl, rfl⟩
  · skip
    go_enter Try.func28, Try.ntmps28
    go_wp2_with (first
      | (go_at_call 40; refine hmk.mono ?_; rintro e w1 ⟨rfl, hb1⟩; have HR1 := Lib.hid ((HR.out.next hb1).alloc (.cells #[.int .u16 m0, .int .u16 m1] 80)); obtain ⟨-, -, -, -, k1, k2, k3⟩ := HCl.out _ HR1.out.below; have HM := Lib.hid (Holds.new w1 80 #[.int .u16 m0, .int .u16 m1]); have hw2 := HW.out _ (HR1.out.alloc (.cells #[.int .i64 f.pl, .int .i64 T, .int .i64 f.ph] 65)).below; clear hmk hb1)
      | (go_at_call 27; (with_reducible refine hw2.mono ?_); rintro e w2 ⟨rfl, hb2⟩; have HR2 := Lib.hid (((HR1.out.alloc (.cells #[.int .i64 f.pl, .int .i64 T, .int .i64 f.ph] 65)).next hb2).alloc (.cells #[.int .i64 f.s.me, .int .i64 f.s.root, .int .u16 m0, .int .u16 m1, .int .i64 f.ph, .int .i64 T] 48)); have HY := Lib.hid (Holds.new w2 48 #[.int .i64 f.s.me, .int .i64 f.s.root, .int .u16 m0, .int .u16 m1, .int .i64 f.ph, .int .i64 T]); have y0 := HY.out.cell 0; have y1 := HY.out.cell 1; have y2 := HY.out.cell 2; have y3 := HY.out.cell 3; have y4 := HY.out.cell 4; have y5 := HY.out.cell 5; clear hb2)
      | (go_at_call 41; (with_reducible refine (HG.out _).mono ?_); rintro e w3 ⟨rfl, hb3⟩; have HR3 := Lib.hid (HR2.out.next hb3); have HY3 := Lib.hid (HY.out.below hb3 HY.out.lt); have x0 := HY3.out.cell 0; have x1 := HY3.out.cell 1; have x2 := HY3.out.cell 2; have x3 := HY3.out.cell 3; have x4 := HY3.out.cell 4; have x5 := HY3.out.cell 5; clear hb3 y0 y1 y2 y3 y4 y5)
      | (refine wpList_store_at rfl 48 (.tmp 4) (.tmp 39) rfl w.heap.size 0 (wordC (f.s.me, f.s.root, m0, m1, f.ph, T)) rfl rfl 48 zeroW HR3.out.holds sync_size (Nat.le_refl 6) (wordC_one _) ?_))
    have HE := word_put (C := zeroW) HR3.out rfl (f.s.me, f.s.root, m0, m1, f.ph, T)
    refine bodyPost_ret (results_row_tmp rfl _ _ w.heap.size 48 (wordC (f.s.me, f.s.root, m0, m1, f.ph, T)) _ _ rfl HE.holds Try.underlying48 rfl sync_size rfl) rfl ?_
    exact ⟨rfl, HE.below⟩
  · skip
    go_enter Try.func28, Try.ntmps28
    go_wp2_with (first
      | (go_at_call 40; refine hmk.mono ?_; rintro e w1 ⟨rfl, hb1⟩; have HR1 := Lib.hid ((HR.out.next hb1).alloc (.cells #[.int .u16 m0, .int .u16 m1] 80)); obtain ⟨-, -, -, -, k1, k2, k3⟩ := HCl.out _ HR1.out.below; have HM := Lib.hid (Holds.new w1 80 #[.int .u16 m0, .int .u16 m1]); have hw2 := HW.out _ (HR1.out.alloc (.cells #[.int .i64 f.pl, .int .i64 T, .int .i64 f.ph] 65)).below; clear hmk hb1)
      | (go_at_call 27; (with_reducible refine hw2.mono ?_); rintro e w2 ⟨rfl, hb2⟩; have HR2 := Lib.hid (((HR1.out.alloc (.cells #[.int .i64 f.pl, .int .i64 T, .int .i64 f.ph] 65)).next hb2).alloc (.cells #[.int .i64 f.s.me, .int .i64 f.s.root, .int .u16 m0, .int .u16 m1, .int .i64 f.ph, .int .i64 T] 48)); have HY := Lib.hid (Holds.new w2 48 #[.int .i64 f.s.me, .int .i64 f.s.root, .int .u16 m0, .int .u16 m1, .int .i64 f.ph, .int .i64 T]); have y0 := HY.out.cell 0; have y1 := HY.out.cell 1; have y2 := HY.out.cell 2; have y3 := HY.out.cell 3; have y4 := HY.out.cell 4; have y5 := HY.out.cell 5; clear hb2)
      | (go_at_call 41; (with_reducible refine (HG.out _).mono ?_); rintro e w3 ⟨rfl, hb3⟩; have HR3 := Lib.hid (HR2.out.next hb3); have HY3 := Lib.hid (HY.out.below hb3 HY.out.lt); have x0 := HY3.out.cell 0; have x1 := HY3.out.cell 1; have x2 := HY3.out.cell 2; have x3 := HY3.out.cell 3; have x4 := HY3.out.cell 4; have x5 := HY3.out.cell 5; clear hb3 y0 y1 y2 y3 y4 y5)
      | (refine wpList_store_at rfl 48 (.tmp 4) (.tmp 38) rfl w.heap.size 0 (wordC noW) rfl rfl 48 zeroW HR3.out.holds sync_size (Nat.le_refl 6) (wordC_one _) ?_))
    have HE := word_put (C := zeroW) HR3.out rfl noW
    refine bodyPost_ret (results_row_tmp rfl _ _ w.heap.size 48 (wordC noW) _ _ rfl HE.holds Try.underlying48 rfl sync_size rfl) rfl ?_
    exact ⟨rfl, HE.below⟩
end Go.Proofs.Ytgmeakcfiaopcaa

/- Package flood: Beat. -/
namespace Go.Proofs.Ytgmeakcfiaopcaa
open Go.RowKit
set_option linter.unusedVariables false
set_option linter.unusedSimpArgs false

section
variable {w0 W : World} {B gf g b b' n' : Nat} {f : FS} {T : TypeId} {C : List Value}
/-- The call's own variable is written whole. -/
theorem Fw.put (h : Fw w0 B gf g b T C.toArray f b' n' W) (D : List Value) (hl : D.length = C.length) : Holds (W.setRow w0.heap.size (splice C 0 D).toArray) w0.heap.size T D.toArray ∧ FGoes B gf g b n' f w0 (W.setRow w0.heap.size (splice C 0 D).toArray) := by
  rw [splice_all C D hl]
  obtain ⟨o1, o2, o3⟩ := h.old
  have hap := h.fo.node.km.apart h.box
  have hc : Chg (fun k => k = w0.heap.size) W (W.setRow w0.heap.size D.toArray) := Chg.of_grown (grown_row W w0.heap.size _) (fun k e => by cases e; rfl)
  refine ⟨h.box.row _, b', h.fo.chg hc (fun k hk e => ?_), h.chg.trans hc (fun k hk e => by omega), h.mv⟩
  rcases hk with e1 | e1 | e1
  · omega
  · omega
  · exact hap (e.symm.trans e1)
end
theorem fbeat_nil (w : World) (lo : Int) : Calls Try.prog 11 #[.pointer none, .int .i64 lo] w fun e w' => e = .returned (.tuple #[wordV noW, .bool false]) ∧ Below w.heap.size w w' := by
  have HR := Lib.hid (Box.start w 48 #[.int .i64 0, .int .i64 0, .int .u16 0, .int .u16 0, .int .i64 0, .int .i64 0])
  go_enter Try.func11, Try.ntmps11
  go_wp2_with (refine wpList_store_at rfl 48 (.tmp 4) (.tmp 10) rfl w.heap.size 0 (wordC noW) rfl rfl 48 zeroW HR.out.holds sync_size (Nat.le_refl 6) (wordC_one _) ?_)
  have HE := word_put (C := zeroW) HR.out rfl noW
  refine bodyPost_ret (results_row_tmp rfl _ _ w.heap.size 48 (wordC noW) _ _ rfl HE.holds Try.underlying48 rfl sync_size rfl) rfl ?_
  exact ⟨rfl, HE.below⟩
theorem says_ways {f f' : FS} {lo : Int} {W : W6} {ok : Bool} (h : Says f lo W ok f') : (timeB lo = false ∧ W = noW ∧ ok = false ∧ f' = f) ∨
    (timeB lo = true ∧ minB f = true ∧ W = (f.s.me, f.s.root, f.s.boot, nextV f.s.seq, 0, lo) ∧ ok = true ∧ f' = f.at (issueS f.s)) ∨ (timeB lo = true ∧ minB f = false ∧ synB f = false ∧ W = noW ∧ ok = false ∧ f' = f) ∨
    (timeB lo = true ∧ minB f = false ∧ synB f = true ∧ f' = f ∧ (timeB (f.pg + (lo - f.pl)) = true ∧ W = (f.s.me, f.s.root, (saidV f.s).1, (saidV f.s).2, f.ph, f.pg + (lo - f.pl)) ∧ ok = true ∨ timeB (f.pg + (lo - f.pl)) = false ∧ W = noW ∧ ok = false)) := by
  rcases h with h | h | h | ⟨h1, h2, h3, h4, h5, h6, h7⟩ | ⟨h1, h2, h3, h4, h5, h6, h7⟩
  · exact .inl h
  · exact .inr (.inl h)
  · exact .inr (.inr (.inl h))
  · exact .inr (.inr (.inr ⟨h1, h2, h3, h7, .inl ⟨h4, h5, h6⟩⟩))
  · exact .inr (.inr (.inr ⟨h1, h2, h3, h7, .inr ⟨h4, h5, h6⟩⟩))
theorem min_syn {f : FS} (h : minB f = true) : synB f = true := decide_eq_true (.inl (of_decide_eq_true h))
set_option maxHeartbeats 1000000 in
set_option maxRecDepth 100000 in
theorem fbeat_any (w : World) (B gf g b n : Nat) (f : FS) (h : Fo w B gf g b n f) (hI : FInv f) (lo : Int) (hlf : Fits lo) (W : W6) (ok : Bool) (f' : FS) (hs : Says (beatF f) lo W ok f') :
    Calls Try.prog 11 #[.pointer (some ⟨gf, 0, none⟩), .int .i64 lo] w fun e w' => e = .returned (.tuple #[wordV W, .bool ok]) ∧ FGoes B gf g b n f' w w' := by
  have HV := Lib.hid (Fw.start h 48 #[.int .i64 0, .int .i64 0, .int .u16 0, .int .u16 0, .int .i64 0, .int .i64 0])
  have g0 := HV.out.fo.cells.1
  obtain ⟨D, hD⟩ : ∃ D, beatB f.s = D := ⟨_, rfl⟩
  obtain ⟨S, hS⟩ : ∃ S, beatS f.s = S := ⟨_, rfl⟩
  have hbt := beat_at HV.out.fo.node hD hS
  have hrul := beat_rules f.s
  rw [hS] at hrul
  have HRu := Lib.hid hrul
  have HFg := Lib.hid (fun W b' n' f' (hw : Fw w B gf g b 48 #[.int .i64 0, .int .i64 0, .int .u16 0, .int .u16 0, .int .i64 0, .int .i64 0] f' b' n' W) => forget_any W B gf g b' n' f' hw.fo)
  obtain ⟨F, hF⟩ : ∃ F, beatF f = F := ⟨_, rfl⟩
  have hFI : FInv F := by rw [← hF]; exact hI.beat
  have hFF : F = if D = true then (f.at S).clear else f.at S := by rw [← hF, ← hD, ← hS]; rfl
  rw [hF] at hs
  have HFF := Lib.hid hFF
  have HFI := Lib.hid hFI
  have ht := fun W => ftime_any lo W
  have HSy := Lib.hid (fun V b' n' (hw : Fw w B gf g b 48 #[.int .i64 0, .int .i64 0, .int .u16 0, .int .u16 0, .int .i64 0, .int .i64 0] F b' n' V) => synced_any V B gf g b' n' F hw.fo)
  have HMi := Lib.hid (fun V b' n' (hw : Fw w B gf g b 48 #[.int .i64 0, .int .i64 0, .int .u16 0, .int .u16 0, .int .i64 0, .int .i64 0] F b' n' V) => mine_at hw.fo.node (v := minB F) rfl)
  have HS := Lib.hid (says_ways hs)
  clear h hI hD hS hrul hF hFI hFF hs
  cases D
  case' false =>
    go_enter Try.func11, Try.ntmps11
    go_upto_region 5 with (first
      | (go_at_call 25; refine hbt.mono ?_; rintro e w4 ⟨rfl, hg4⟩; obtain ⟨b5, hW5⟩ := HV.out.goes (HV.out.fo.node_goes hg4 HRu.out); rw [show f.at S = F from HFF.out.symm] at hW5; have HW := Lib.hid hW5; clear hg4 hW5 hbt))
  case' true =>
    go_enter Try.func11, Try.ntmps11
    go_upto_region 5 with (first
      | (go_at_call 25; refine hbt.mono ?_; rintro e w3 ⟨rfl, hg3⟩; obtain ⟨b4, hW3⟩ := HV.out.goes (HV.out.fo.node_goes hg3 HRu.out); have hfg := HFg.out _ _ _ _ hW3; have HW3 := Lib.hid hW3; clear hg3 hW3 hbt)
      | (go_at_call 23; refine hfg.mono ?_; rintro e w4 ⟨rfl, hg4⟩; obtain ⟨b5, hW5⟩ := HW3.out.goes hg4; rw [show (f.at S).clear = F from HFF.out.symm] at hW5; have HW := Lib.hid hW5; clear hg4 hW5 hfg))
  all_goals
    have hsy := HSy.out _ _ _ HW.out
    clear HV g0 HRu HFg HFF HSy
    rcases HS.out with ⟨e1, rfl, rfl, hf'⟩ | ⟨e1, e2, rfl, rfl, hf'⟩ | ⟨e1, e2, e3, rfl, rfl, hf'⟩ | ⟨e1, e2, e3, hf', h45⟩
    · have hf2 := hf'.symm
      subst hf2
      simp only [e1] at ht
      clear hsy HMi HFI HS
      go_wp2_with (first
        | (go_at_call 21; (with_reducible refine (ht _).mono ?_); rintro e wx ⟨rfl, hwx⟩; subst wx)
        | (refine wpList_store_at rfl 48 (.tmp 4) (.tmp 26) rfl w.heap.size 0 (wordC noW) rfl rfl 48 zeroW HW.out.box sync_size (Nat.le_refl 6) (wordC_one _) ?_))
      have HE := Fw.put (C := zeroW) HW.out (wordC noW) rfl
      refine bodyPost_ret (results_row_tmp rfl _ _ w.heap.size 48 (wordC noW) _ _ rfl HE.1 Try.underlying48 rfl sync_size rfl) rfl ?_
      exact ⟨rfl, HE.2⟩
    · have e3 := min_syn e2
      subst hf'
      simp only [e1] at ht
      simp only [e3] at hsy
      simp only [e2] at HMi
      have hroot : F.s.root = F.s.me := of_decide_eq_true e2
      obtain ⟨r1, r2⟩ := issue_root F.s
      have hrul := issue_rules F.s
      have HIs := Lib.hid (fun V b' n' (hw : Fw w B gf g b 48 #[.int .i64 0, .int .i64 0, .int .u16 0, .int .u16 0, .int .i64 0, .int .i64 0] F b' n' V) => issue_at hw.fo.node)
      rw [show issueV F.s = (F.s.boot, nextV F.s.seq) from if_pos hroot, decide_eq_true hroot] at HIs
      have HRl := Lib.hid hrul
      have HWd := Lib.hid (fun V b' n' (hw : Fw w B gf g b 48 #[.int .i64 0, .int .i64 0, .int .u16 0, .int .u16 0, .int .i64 0, .int .i64 0] (F.at (issueS F.s)) b' n' V) => word_any V B gf g b' n' (F.at (issueS F.s)) hw.fo F.s.boot (nextV F.s.seq) 0 lo 0)
      have hr1 : (F.at (issueS F.s)).s.root = F.s.root := r1
      have hr2 : (F.at (issueS F.s)).s.me = F.s.me := r2
      rw [hr1, hr2] at HWd
      unfold wordV at HWd
      clear r1 r2 hr1 hr2 hrul hroot HFI HS e2 e3
      go_wp2_with (first
        | (go_at_call 21; (with_reducible refine (ht _).mono ?_); rintro e wx ⟨rfl, hwx⟩; subst wx)
        | (go_at_call 15; (with_reducible refine hsy.mono ?_); rintro e wx ⟨rfl, nq, rfl⟩; have HWa := Lib.hid (HW.out.drewN nq); have hmi := HMi.out _ _ _ HWa.out; have k0 := HWa.out.fo.cells.1)
        | (go_at_call 17; (with_reducible refine hmi.mono ?_); rintro e wx ⟨rfl, nr, rfl⟩; have hWb := HWa.out.drewN nr; rw [fdrew_two] at hWb; have k1 := hWb.fo.cells.1; have HWb := Lib.hid hWb; clear k0 hmi hWb)
        | (go_at_call 26; refine (HIs.out _ _ _ HWb.out).mono ?_; rintro e w6 ⟨rfl, hg6⟩; obtain ⟨b6, hW6⟩ := HWb.out.goes (HWb.out.fo.node_goes hg6 HRl.out); have HWc := Lib.hid (hW6.below (below_alloc _ (.cells #[.int .u16 F.s.boot, .int .u16 (nextV F.s.seq)] 80))); have hwd := HWd.out _ _ _ HWc.out; have HMk := Lib.hid (Holds.new w6 80 #[.int .u16 F.s.boot, .int .u16 (nextV F.s.seq)]); have m0 := HMk.out.cell 0; have m1 := HMk.out.cell 1; clear hg6 hW6)
        | (go_at_call 27; (with_reducible refine hwd.mono ?_); rintro e w7 ⟨rfl, hb7⟩; have HWe := Lib.hid (HWc.out.below hb7); clear hwd hb7)
        | (refine wpList_store_at rfl 48 (.tmp 4) (.tmp 44) rfl w.heap.size 0 (wordC (F.s.me, F.s.root, F.s.boot, nextV F.s.seq, 0, lo)) rfl rfl 48 zeroW HWe.out.box sync_size (Nat.le_refl 6) (wordC_one _) ?_))
      have HE := Fw.put (C := zeroW) HWe.out (wordC (F.s.me, F.s.root, F.s.boot, nextV F.s.seq, 0, lo)) rfl
      refine bodyPost_ret (results_row_tmp rfl _ _ w.heap.size 48 (wordC (F.s.me, F.s.root, F.s.boot, nextV F.s.seq, 0, lo)) _ _ rfl HE.1 Try.underlying48 rfl sync_size rfl) rfl ?_
      exact ⟨rfl, HE.2⟩
    · have hf2 := hf'.symm
      subst hf2
      simp only [e1] at ht
      simp only [e3] at hsy
      clear HMi HFI HS e2 e3
      go_wp2_with (first
        | (go_at_call 21; (with_reducible refine (ht _).mono ?_); rintro e wx ⟨rfl, hwx⟩; subst wx)
        | (go_at_call 15; (with_reducible refine hsy.mono ?_); rintro e wx ⟨rfl, nq, rfl⟩; have HWa := Lib.hid (HW.out.drewN nq))
        | (refine wpList_store_at rfl 48 (.tmp 4) (.tmp 26) rfl w.heap.size 0 (wordC noW) rfl rfl 48 zeroW HWa.out.box sync_size (Nat.le_refl 6) (wordC_one _) ?_))
      have HE := Fw.put (C := zeroW) HWa.out (wordC noW) rfl
      refine bodyPost_ret (results_row_tmp rfl _ _ w.heap.size 48 (wordC noW) _ _ rfl HE.1 Try.underlying48 rfl sync_size rfl) rfl ?_
      exact ⟨rfl, HE.2⟩
    · have hf2 := hf'.symm
      subst hf2
      have HP := Lib.hid (fun V b' n' (hw : Fw w B gf g b 48 #[.int .i64 0, .int .i64 0, .int .u16 0, .int .u16 0, .int .i64 0, .int .i64 0] F b' n' V) => pass_any V B gf g b' n' F hw.fo HFI.out e2 e3 lo e1 W ok h45)
      simp only [e1] at ht
      simp only [e3] at hsy
      simp only [e2] at HMi
      clear HFI HS e2 e3 h45
      go_wp2_with (first
        | (go_at_call 21; (with_reducible refine (ht _).mono ?_); rintro e wx ⟨rfl, hwx⟩; subst wx)
        | (go_at_call 15; (with_reducible refine hsy.mono ?_); rintro e wx ⟨rfl, nq, rfl⟩; have HWa := Lib.hid (HW.out.drewN nq); have hmi := HMi.out _ _ _ HWa.out; have k0 := HWa.out.fo.cells.1)
        | (go_at_call 17; (with_reducible refine hmi.mono ?_); rintro e wx ⟨rfl, nr, rfl⟩; have hWb := HWa.out.drewN nr; rw [fdrew_two] at hWb; have k1 := hWb.fo.cells.1; have HWb := Lib.hid hWb; clear k0 hmi hWb)
        | (go_at_call 28; refine (HP.out _ _ _ HWb.out).mono ?_; rintro e w7 ⟨rfl, hb7⟩; have HWe := Lib.hid (HWb.out.below hb7); clear hb7)
        | (refine wpList_store_at rfl 48 (.tmp 4) (.tmp 49) rfl w.heap.size 0 (wordC W) rfl rfl 48 zeroW HWe.out.box sync_size (Nat.le_refl 6) (wordC_one _) ?_))
      have HE := Fw.put (C := zeroW) HWe.out (wordC W) rfl
      refine bodyPost_ret (results_row_tmp rfl _ _ w.heap.size 48 (wordC W) _ _ rfl HE.1 Try.underlying48 rfl sync_size rfl) rfl ?_
      exact ⟨rfl, HE.2⟩
end Go.Proofs.Ytgmeakcfiaopcaa

/- Package flood: New, Time. -/
namespace Go.Proofs.Ytgmeakcfiaopcaa
open Go.RowKit
set_option linter.unusedVariables false
set_option linter.unusedSimpArgs false

theorem fo_new {w : World} {B g b n : Nat} {me tmo ign need drift x : Int} (h : En w B g b n (newS me tmo ign x)) (hB : B ≤ w.heap.size) :
    Fo (w.alloc (.cells (tcs (preV g (newF me tmo ign need drift x)) (ptV 0 0 0) (List.replicate 8 (0, 0, 0)) 0).toArray 67)) B w.heap.size g b n (newF me tmo ign need drift x) :=
  ⟨h.below (below_alloc _ _), hB, List.replicate 8 (0, 0, 0), rfl, rfl, Nat.zero_le _, rfl, Holds.new _ _ _⟩
set_option maxHeartbeats 1000000 in
set_option maxRecDepth 100000 in
theorem fnew_no (w : World) (me tmo ign need drift : Int) (h : fgoodB me tmo ign need drift = false) : Calls Try.prog 8 #[.int .i64 me, .agg #[.int .i64 tmo, .int .i64 ign, .int .i64 need, .int .i64 drift]] w fun e w' => e = .returned (.tuple #[.pointer none, .int .i64 1]) ∧ Below w.heap.size w w' := by
  have HX := Lib.hid (Box.start w 36 #[.int .i64 tmo, .int .i64 ign, .int .i64 need, .int .i64 drift])
  have hgood := fun W => frules_any W tmo ign need drift
  have hcase : frulesB tmo ign need drift = false ∨ frulesB tmo ign need drift = true ∧ goodB me tmo ign = false := by
    unfold fgoodB at h
    unfold frulesB
    cases hr : rulesB tmo ign with
    | false => exact .inl rfl
    | true =>
      cases hd : decide (1 ≤ need ∧ need ≤ 8 ∧ 0 ≤ drift ∧ drift ≤ 10) with
      | false => exact .inl rfl
      | true =>
        rw [hd] at h
        exact .inr ⟨rfl, by simpa using h⟩
  rcases hcase with h1 | ⟨h1, h2⟩
  · simp only [h1] at hgood
    clear h h1
    go_enter Try.func8, Try.ntmps8
    go_wp2_with (go_at_call 19; refine (hgood _).mono ?_; rintro e w2 ⟨rfl, hb2⟩; have hx2 := HX.out.next hb2)
    go_ret2
    exact ⟨rfl, hx2.below⟩
  · simp only [h1] at hgood
    have hnew := fun W => enew_no W me tmo ign h2
    clear h h1 h2
    go_enter Try.func8, Try.ntmps8
    go_wp2_with (first
      | (go_at_call 19; refine (hgood _).mono ?_; rintro e w2 ⟨rfl, hb2⟩; have hx2 := HX.out.next hb2; have HX2 := Lib.hid hx2; have x0 := hx2.holds.cell 0; have x1 := hx2.holds.cell 1; clear hx2 hb2)
      | (go_at_call 20; refine (hnew _).mono ?_; rintro e w3 ⟨rfl, hb3⟩; have HX3 := Lib.hid (HX2.out.next hb3)))
    go_ret2
    exact ⟨rfl, HX3.out.below⟩
set_option maxHeartbeats 1000000 in
set_option maxRecDepth 100000 in
theorem fnew_yes (w : World) (me tmo ign need drift : Int) (h : fgoodB me tmo ign need drift = true) : Calls Try.prog 8 #[.int .i64 me, .agg #[.int .i64 tmo, .int .i64 ign, .int .i64 need, .int .i64 drift]] w fun e w' => ∃ gf g b, e = .returned (.tuple #[.pointer (some ⟨gf, 0, none⟩), .int .i64 0]) ∧ Fo w' w.heap.size gf g b 0 (newF me tmo ign need drift 0) ∧ Below w.heap.size w w' := by
  have HX := Lib.hid (Box.start w 36 #[.int .i64 tmo, .int .i64 ign, .int .i64 need, .int .i64 drift])
  have hgood := fun W => frules_any W tmo ign need drift
  unfold fgoodB at h
  simp only [Bool.and_eq_true] at h
  obtain ⟨h1, h2⟩ := h
  have hr : frulesB tmo ign need drift = true := by
    unfold frulesB
    rw [h2, show rulesB tmo ign = true from decide_eq_true (by have := (good_iff _ _ _).1 h1; omega)]
    rfl
  simp only [hr] at hgood
  have hnew := fun W => enew_yes W me tmo ign h1
  clear h1 h2 hr
  go_enter Try.func8, Try.ntmps8
  go_wp2_with (first
    | (go_at_call 19; refine (hgood _).mono ?_; rintro e w2 ⟨rfl, hb2⟩; have hx2 := HX.out.next hb2; have HX2 := Lib.hid hx2; have x0 := hx2.holds.cell 0; have x1 := hx2.holds.cell 1; clear hx2 hb2)
    | (go_at_call 20; refine (hnew _).mono ?_; rintro e w3 ⟨g, b, rfl, hE, hb3⟩; have HE := Lib.hid hE; have hx3 := HX2.out.next hb3; have HX3 := Lib.hid hx3; have y0 := hx3.holds.cell 0; have y1 := hx3.holds.cell 1; have y2 := hx3.holds.cell 2; have y3 := hx3.holds.cell 3; clear hE hb3 hx3))
  go_ret2
  have hlt := HX2.out.lt
  have hlt3 := HX3.out.lt
  have hE := HE.out.at (B' := w.heap.size) (by have := HE.out.newer.1; omega) (by have := HE.out.newer.2; omega)
  exact ⟨_, g, b, rfl, fo_new hE (Nat.le_of_lt hlt3), (HX3.out.alloc _).below⟩
end Go.Proofs.Ytgmeakcfiaopcaa

/- A struct of many cells: loaded from cells that are known one by one, laid into a block of its own. Nothing here speaks of one program. (The walk's own step at an alloc and a store of it costs the kernel twice as much for each cell.) -/
namespace Go.Proofs.Ytgmeakcfiaopcaa
open Go.RowKit

section
variable {P : Program}
theorem run_loadVar_cells (w : World) (g o : Nat) (ty : TypeId) (cs : List Value) (d : TypeDesc) (hcs : ∀ j v, cs[j]? = some v → w.cell? ⟨g, o + j, none⟩ = some v)
    (hu : P.underlying ty = some d) (hd : (match d with | .struct _ | .array _ _ => true | _ => false) = true) (hi : (P.info? ty).map (·.size) = some cs.length) :
    (loadVar ty ⟨g, o, none⟩).run P w = .ok (.agg cs.toArray) w := by
  have hl : (loadCells ⟨g, o, none⟩ cs.length).run P w = .ok cs.toArray w :=
    run_loadCells_list (P := P) w ⟨g, o, none⟩ cs (fun j v hv => by
      have hadd : (⟨g, o, none⟩ : Addr).add j = ⟨g, o + j, none⟩ := by unfold Addr.add; split <;> simp_all
      rw [hadd]
      exact hcs j v hv)
  cases hq : P.info? ty with
  | none => simp [hq] at hi
  | some i =>
    have hs : i.size = cs.length := by simpa [hq] using hi
    have hagg : (isAgg ty).run P w = .ok true w := by
      unfold isAgg
      rw [Sem.run_bind, run_underlying hu w]
      cases d <;> simp_all
    simp [loadVar, Sem.run_bind, hagg, sizeOf, typeInfo, hq, hs, hl]
theorem wpList_load_cells {ops : Array Oper} {rest : List Oper} {o : Oper} {a : Act} {w : World} {Q : Exit → Act → World → Prop} (hgd : o.guard = none) (ty : TypeId) (x : Operand) (ho : o.op = .load ty x)
    (g off : Nat) (hx : a.eval x = .pointer (some ⟨g, off, none⟩)) (cs : List Value) (d : TypeDesc) (hcs : ∀ j v, cs[j]? = some v → w.cell? ⟨g, off + j, none⟩ = some v)
    (hu : P.underlying ty = some d) (hd : (match d with | .struct _ | .array _ _ => true | _ => false) = true) (hi : (P.info? ty).map (·.size) = some cs.length)
    (h : wpList P ops Q rest (a.put o.dst (.agg cs.toArray)) w) : wpList P ops Q (o :: rest) a w :=
  wpList_plain hgd fun _ hK => by
    unfold Oper.wp execOp
    simp only [ho, hx, Instr.loadAt, Instr.sureAddr, Sem.run_bind, Sem.run_pure, Result.andThen_ok, run_loadVar_cells w g off ty cs d hcs hu hd hi]
    exact hK _ _ h
end
/-- A block made, and laid whole. -/
theorem elem_new (w : World) (t : TypeId) (zs vs : List Value) : Below w.heap.size w ((w.alloc (.cells zs.toArray t)).setRow w.heap.size vs.toArray) ∧ Holds ((w.alloc (.cells zs.toArray t)).setRow w.heap.size vs.toArray) w.heap.size t vs.toArray :=
  ⟨Below.chg (below_alloc _ _) (Chg.of_grown (grown_row _ w.heap.size vs.toArray) (S := fun k => k = w.heap.size) (fun k e => by cases e; rfl)) (by simp) (fun k e => by omega), (Holds.new _ _ _).row _⟩
/-- A part of a list of cells. -/
theorem part_get (pre mid post : List Value) (j : Nat) (v : Value) (h : mid[j]? = some v) : (pre ++ (mid ++ post)).toArray[pre.length + j]? = some v := by
  have hj : j < mid.length := (List.getElem?_eq_some_iff.1 h).1
  rw [List.getElem?_toArray, get_mid _ _ _ _ hj]
  exact h
end Go.Proofs.Ytgmeakcfiaopcaa

/- The stage's laws: a flood and a source side by side; the law's own rules; what the document tells. -/
namespace Go.Proofs.Ytgmeakcfiaopcaa
open Go.RowKit
set_option linter.unusedVariables false
set_option linter.unusedSimpArgs false

theorem lrules_any (w : World) (a b c d : Int) : Calls Try.prog 9 #[.agg #[.int .i64 a, .int .i64 b, .int .i64 c, .int .i64 d]] w fun e w' => e = .returned (.agg #[.int .i64 a, .int .i64 b, .int .i64 c, .int .i64 d]) ∧ Below w.heap.size w w' := by
  go_enter Try.func9, Try.ntmps9
  go_wp2
  have hb1 := below_alloc w (.cells #[.int .i64 a, .int .i64 b, .int .i64 c, .int .i64 d] 23)
  refine bodyPost_ret (results_cell_row rfl _ _ (w.heap.size + 1) 36 _ (0, 0) _ rfl (by have := heap_alloc_new (w.alloc (.cells #[.int .i64 a, .int .i64 b, .int .i64 c, .int .i64 d] 23)) (.cells #[.int .i64 a, .int .i64 b, .int .i64 c, .int .i64 d] 36); simpa using this) Try.underlying36 rfl (by kernel_rfl)) rfl ?_
  exact ⟨rfl, hb1.alloc hb1.size _⟩
section
variable {w wr w' : World} {B gf g b n n' gs : Nat} {f f' : FS} {a a' : AS}
/-- A flood and a source, younger than the law's begin. -/
structure Ls (w wr : World) (gf g b n : Nat) (f : FS) (gs : Nat) (a : AS) : Prop where
  law : Below w.heap.size w wr
  fo : Fo wr w.heap.size gf g b n f
  inv : FInv f
  src : Sq wr gs a
  new : w.heap.size ≤ gs
  ainv : AInv a
theorem Ls.low (h : Ls w wr gf g b n f gs a) : ∀ k, fpart gf g b k → w.heap.size ≤ k := fun k hk => by
  have h1 := h.fo.newer
  have h2 := h.fo.node.newer
  rcases hk with rfl | rfl | rfl
  · exact h1
  · exact h2.1
  · exact h2.2
/-- A block of another type is none of the flood's. -/
theorem Fo.far (h : Fo wr B gf g b n f) {o : Nat} {ty : TypeId} {cs : Array Value} (HO : Holds wr o ty cs) (hT : ty ≠ 67 ∧ ty ≠ 88) : ¬ fpart gf g b o := fun k => by
  obtain ⟨K, hK⟩ := h.tab
  have h1 : o ≠ gf := HO.apart hK.holds hT.1
  have h2 : o ≠ g := HO.apart h.node.holds hT.2
  have h3 : o ≠ b := h.node.km.apart HO
  rcases k with e | e | e <;> contradiction
theorem Ls.apart (h : Ls w wr gf g b n f gs a) : ¬ fpart gf g b gs := h.fo.far h.src (by constructor <;> decide)
theorem Ls.below (h : Ls w wr gf g b n f gs a) (hb : Below wr.heap.size wr w') : Ls w w' gf g b n f gs a :=
  ⟨h.law.trans (hb.mono h.law.size), h.fo.below hb, h.inv, h.src.below hb (Holds.lt h.src), h.new, h.ainv⟩
theorem Ls.alloc (h : Ls w wr gf g b n f gs a) (o : Obj) : Ls w (wr.alloc o) gf g b n f gs a := h.below (below_alloc _ _)
theorem Ls.drewN (h : Ls w wr gf g b n f gs a) (m : Nat) : Ls w (wr.drewN m) gf g b n f gs a := h.below (below_drewN (Below.refl _ _) m)
theorem Ls.drew (h : Ls w wr gf g b n f gs a) : Ls w wr.drew gf g b n f gs a := h.drewN 1
theorem Ls.mono (h : Ls w wr gf g b n f gs a) (hn : n ≤ n') : Ls w wr gf g b n' f gs a := ⟨h.law, h.fo.mono hn, h.inv, h.src, h.new, h.ainv⟩
/-- A step of the flood. -/
theorem Ls.hear (h : Ls w wr gf g b n f gs a) (hg : FGoes w.heap.size gf g b n' f' wr w') (hI : FInv f') : ∃ b', Ls w w' gf g b' n' f' gs a ∧ Chg (fpart gf g b) wr w' := by
  obtain ⟨b', h1, h2, h3⟩ := hg
  exact ⟨b', ⟨Below.chg h.law h2 h.law.size (fun k hk => h.low k hk), h1, hI, h.src.chg h2 h.apart, h.new, h.ainv⟩, h2⟩
/-- A step of the source. -/
theorem Ls.go (h : Ls w wr gf g b n f gs a) (hg : SGoes gs a' wr w') (hA : AInv a') : Ls w w' gf g b n f gs a' :=
  ⟨Below.chg h.law hg.2 h.law.size (fun k hk => by have := h.new; omega), h.fo.chg hg.2 (fun k hk e => by cases e; exact h.apart hk), h.inv, hg.1, h.new, hA⟩
/-- Another block stays, whatever of the two is written. -/
theorem Ls.keep1 (h : Ls w wr gf g b n f gs a) {o : Nat} {ty : TypeId} {cs : Array Value} (HO : Holds wr o ty cs) (hT : ty ≠ 67 ∧ ty ≠ 88) (hc : Chg (fpart gf g b) wr w') : Holds w' o ty cs := HO.chg hc (h.fo.far HO hT)
theorem Ls.keep2 (h : Ls w wr gf g b n f gs a) {o : Nat} {ty : TypeId} {cs : Array Value} (HO : Holds wr o ty cs) (hT : ty ≠ 74) (hg : SGoes gs a' wr w') : Holds w' o ty cs := HO.chg hg.2 (fun e => HO.apart h.src hT e)
end
/-- What Time answers with what was asked, and without. -/
theorem prefer_ways (f : FS) (a : AS) (lim lo : Int) :
    (∃ t hp r m, synB f = true ∧ minB f = true ∧ f.s.root = r ∧ STime f a lo t hp r m 1 0 ∧ STime f (newA lim) lo t hp r m 1 0) ∨
    (∃ t hp r m, synB f = true ∧ minB f = false ∧ f.s.root = r ∧ STime f a lo t hp r m 2 0 ∧ STime f (newA lim) lo t hp r m 2 0) ∨
    (∃ v : Int, synB f = true ∧ (v == 0) = false ∧ STime f a lo 0 0 0 0 0 v ∧ STime f (newA lim) lo 0 0 0 0 0 v) ∨
    (synB f = false ∧ afreshB a = false ∧ STime f a lo 0 0 0 0 0 9 ∧ STime f (newA lim) lo 0 0 0 0 0 9) ∨
    (synB f = false ∧ afreshB a = true ∧ STime f a lo 0 0 0 0 0 8 ∧ STime f (newA lim) lo 0 0 0 0 0 9) ∨
    (∃ t hp r m, synB f = false ∧ afreshB a = true ∧ STime f a lo t hp r m 3 0 ∧ STime f (newA lim) lo 0 0 0 0 0 9) := by
  have hn : afreshB (newA lim) = false := rfl
  cases h1 : synB f with
  | true =>
    obtain ⟨t, hp, v, ht⟩ := tells_is f lo
    by_cases hv : v = 0
    · subst hv
      cases hm : minB f with
      | true => exact .inl ⟨t, hp, f.s.root, (saidV f.s).1, rfl, rfl, rfl, .inl ⟨h1, t, hp, 0, ht, .inl ⟨rfl, rfl, rfl, rfl, rfl, by rw [hm]; rfl, rfl⟩⟩, .inl ⟨h1, t, hp, 0, ht, .inl ⟨rfl, rfl, rfl, rfl, rfl, by rw [hm]; rfl, rfl⟩⟩⟩
      | false => exact .inr (.inl ⟨t, hp, f.s.root, (saidV f.s).1, rfl, rfl, rfl, .inl ⟨h1, t, hp, 0, ht, .inl ⟨rfl, rfl, rfl, rfl, rfl, by rw [hm]; rfl, rfl⟩⟩, .inl ⟨h1, t, hp, 0, ht, .inl ⟨rfl, rfl, rfl, rfl, rfl, by rw [hm]; rfl, rfl⟩⟩⟩)
    · exact .inr (.inr (.inl ⟨v, rfl, by simpa using hv, .inl ⟨h1, t, hp, v, ht, .inr ⟨hv, rfl, rfl, rfl, rfl, rfl, rfl⟩⟩, .inl ⟨h1, t, hp, v, ht, .inr ⟨hv, rfl, rfl, rfl, rfl, rfl, rfl⟩⟩⟩))
  | false =>
    have hz : STime f (newA lim) lo 0 0 0 0 0 9 := .inr (.inl ⟨h1, hn, rfl, rfl, rfl, rfl, rfl, rfl⟩)
    cases h2 : afreshB a with
    | false => exact .inr (.inr (.inr (.inl ⟨rfl, rfl, .inr (.inl ⟨h1, h2, rfl, rfl, rfl, rfl, rfl, rfl⟩), hz⟩)))
    | true =>
      cases h3 : timeB lo with
      | false => exact .inr (.inr (.inr (.inr (.inl ⟨rfl, rfl, .inr (.inr (.inl ⟨h1, h2, .inl h3, rfl, rfl, rfl, rfl, rfl, rfl⟩)), hz⟩))))
      | true =>
        cases h4 : timeB (lo + a.off) with
        | false => exact .inr (.inr (.inr (.inr (.inl ⟨rfl, rfl, .inr (.inr (.inl ⟨h1, h2, .inr ⟨h3, h4⟩, rfl, rfl, rfl, rfl, rfl, rfl⟩)), hz⟩))))
        | true => exact .inr (.inr (.inr (.inr (.inr ⟨_, _, _, _, rfl, rfl, .inr (.inr (.inr ⟨h1, h2, h3, h4, rfl, rfl, rfl, rfl, rfl, rfl⟩)), hz⟩))))
/-- A law's entry, and whose it is, boxed as it begins. -/
structure Eb (w : World) (e u : Array Value) (W : World) : Prop where
  ent : Holds W w.heap.size 42 e
  who : Holds W (w.heap.size + 1) 53 u
  law : Below w.heap.size w W
theorem Eb.start (w : World) (e u : Array Value) : Eb w e u ((w.alloc (.cells e 42)).alloc (.cells u 53)) := by
  have h2 := Holds.new (w.alloc (.cells e 42)) 53 u
  rw [size_alloc] at h2
  exact ⟨(Holds.new w _ _).alloc _, h2, ((Below.refl _ _).alloc (Nat.le_refl _) _).alloc (by simp) _⟩
theorem Eb.below {w W W' : World} {e u : Array Value} (h : Eb w e u W) (hb : Below W.heap.size W W') : Eb w e u W' := ⟨h.ent.below hb h.ent.lt, h.who.below hb h.who.lt, h.law.trans (hb.mono h.law.size)⟩
set_option maxHeartbeats 2000000 in
set_option maxRecDepth 100000 in
theorem alive_yes (w : World) : Calls Try.prog 6 #[] w fun e w' => e = .returned (.bool true) ∧ Below w.heap.size w w' := by
  have hgd : fgoodB 5 9 0 1 0 = true := by decide
  have hnew := fun W => fnew_yes W 5 9 0 1 0 hgd
  have hI0 : FInv (newF 5 9 0 1 0 0) := FInv.new hgd ⟨by decide, by decide⟩
  have hA0 : AInv (newA 2) := AInv.new (by decide)
  have hA1 := hA0.put 100 50 2 3 7
  have hs : STime (newF 5 9 0 1 0 0) (putA (newA 2) 100 50 2 3 7) 110 160 2 3 7 3 0 := .inr (.inr (.inr ⟨by decide, by decide, by decide, by decide, by decide, by decide, by decide, by decide, rfl, rfl⟩))
  have hv : putV 100 50 2 3 = 0 := by decide
  obtain ⟨f0, hf0⟩ : ∃ f0, newF 5 9 0 1 0 0 = f0 := ⟨_, rfl⟩
  rw [hf0] at hI0 hs
  simp only [hf0] at hnew
  have hput := fun W gs (h : Sq W gs (newA 2)) => sput_any W gs (newA 2) h 100 50 2 3 7
  rw [hv] at hput
  have HN := Lib.hid hnew
  have HP := Lib.hid hput
  have HS := Lib.hid hs
  have HI := Lib.hid hI0
  have HA0 := Lib.hid hA0
  have HA1 := Lib.hid hA1
  have HB0 := Lib.hid (Below.refl w.heap.size w)
  clear hnew hI0 hA0 hA1 hs hv hf0 hput hgd
  go_enter Try.func6, Try.ntmps6
  go_wp2_with (first
    | (go_at_call 7; refine (snew_yes _ 2 (by decide)).mono ?_; rintro e w1 ⟨rfl, hS1, hb1⟩; have HS1 := Lib.hid hS1; have HB1 := Lib.hid (HB0.out.trans (hb1.mono HB0.out.size)); clear hS1 hb1)
    | (go_at_call 8; refine (HN.out _).mono ?_; rintro e w2 ⟨gf, g, b, rfl, hF2, hb2⟩; have HL2 : Hid (Ls w w2 gf g b 0 f0 w.heap.size (newA 2)) := Lib.hid ⟨HB1.out.trans (hb2.mono HB1.out.size), hF2.at HB1.out.size, HI.out, HS1.out.below hb2 (Holds.lt HS1.out), Nat.le_refl _, HA0.out⟩; have hp := HP.out _ _ HL2.out.src; clear hF2 hb2)
    | (go_at_call 13; refine hp.mono ?_; rintro e w3 ⟨rfl, hg3⟩; have HL3 := Lib.hid (HL2.out.go hg3 HA1.out); have ht := stell_any _ _ _ _ _ _ _ _ _ HL3.out.fo HL3.out.src HL3.out.inv HL3.out.ainv 110 160 2 3 7 3 0 HS.out; clear hg3 hp)
    | (go_at_call 14; refine ht.mono ?_; rintro e w4 ⟨rfl, hb4⟩; have HL4 := Lib.hid (HL3.out.below hb4); clear hb4 ht))
  go_ret
  exact ⟨rfl, (HL4.out.alloc _).law⟩
end Go.Proofs.Ytgmeakcfiaopcaa
