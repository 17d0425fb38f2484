/- Package source: isTime, at, flooded, Time. -/
import Derived.Test.YtgmeakcfiaopcaaGreatBunS
import Derived.Test.YtgmeakcfiaopcaaGreatFlH
import Derived.BigQuiet
namespace Go.Proofs.YtgmeakcfiaopcaaGreat
open Go.RowKit
set_option linter.unusedVariables false
set_option linter.unusedSimpArgs false

theorem one_ans (a b c d e : Int) : ∀ v ∈ ([.int .i64 a, .int .i64 b, .int .i64 c, .int .u16 d, .int .i64 e] : List Value), v.oneCell' = true := by
  intro v hv
  simp only [List.mem_cons, List.not_mem_nil, or_false] at hv
  rcases hv with rfl | rfl | rfl | rfl | rfl <;> rfl
theorem stime_any (t : Int) (w : World) : Calls Tryz.prog 58 #[.int .i64 t] w fun e w' => e = .returned (.bool (timeB t)) ∧ w = w' := by
  by_cases h1 : 0 ≤ t
  · have d1 : decide (0 ≤ t) = true := decide_eq_true h1
    by_cases h2 : t ≤ 1125899906842624
    · have d2 : decide (t ≤ 1125899906842624) = true := decide_eq_true h2
      have e : timeB t = true := decide_eq_true ⟨h1, h2⟩
      rw [e]
      clear e
      go_enter Tryz.func58, Tryz.ntmps58
      go_wp2
      go_ret
      exact ⟨rfl, rfl⟩
    · have d2 : decide (t ≤ 1125899906842624) = false := decide_eq_false h2
      have e : timeB t = false := decide_eq_false (fun k => h2 k.2)
      rw [e]
      clear e
      go_enter Tryz.func58, Tryz.ntmps58
      go_wp2
      go_ret
      exact ⟨rfl, rfl⟩
  · have d1 : decide (0 ≤ t) = false := decide_eq_false h1
    have e : timeB t = false := decide_eq_false (fun k => h1 k.1)
    rw [e]
    clear e
    go_enter Tryz.func58, Tryz.ntmps58
    go_wp2
    go_ret
    exact ⟨rfl, rfl⟩
/-- While an answer is made: the result's block, nothing older changed; what a call keeps besides. -/
structure Ak (w0 : World) (o : Nat) (rs : Array Value) (w : World) : Prop where
  res : Holds w o 44 rs
  below : Below w0.heap.size w0 w
  new : w0.heap.size ≤ o
section
variable {w0 w w' : World} {o : Nat} {rs : Array Value}
theorem Ak.lt (h : Ak w0 o rs w) : w0.heap.size < w.heap.size := Nat.lt_of_le_of_lt h.new h.res.lt
theorem Ak.next (h : Ak w0 o rs w) (hb : Below w.heap.size w w') : Ak w0 o rs w' := ⟨h.res.below hb h.res.lt, h.below.trans (hb.mono (Nat.le_of_lt h.lt)), h.new⟩
theorem Ak.drewN (h : Ak w0 o rs w) (n : Nat) : Ak w0 o rs (w.drewN n) := h.next (below_drewN (Below.refl _ _) n)
theorem Ak.alloc (h : Ak w0 o rs w) (x : Obj) : Ak w0 o rs (w.alloc x) := h.next (below_alloc _ _)
theorem Ak.answer (h : Ak w0 o rs w) (l : List Value) : Ak w0 o l.toArray (w.setRow o l.toArray) := by
  have hn := h.new
  exact ⟨h.res.row _, Below.chg h.below (Chg.of_grown (grown_row w o l.toArray) (S := fun k => k = o) (fun k e => by cases e; rfl)) (Nat.le_of_lt h.lt) (fun k e => by omega), hn⟩
theorem Ak.other (h : Ak w0 o rs w) (x : Nat) (l : List Value) (hx : o < x) : Ak w0 o rs (w.setRow x l.toArray) := by
  have hc := Chg.of_grown (grown_row w x l.toArray) (S := fun k => k = x) (fun k e => by cases e; rfl)
  have hn := h.new
  exact ⟨h.res.chg hc (fun e => by omega), Below.chg h.below hc (Nat.le_of_lt h.lt) (fun k e => by omega), hn⟩
theorem Ak.set (h : Ak w0 o rs w) (x i : Nat) (u : Value) (hx : o < x) : Ak w0 o rs (w.setCell ⟨x, i, none⟩ u) := by
  have hc := Chg.set (S := fun k => k = x) w x i u rfl
  have hn := h.new
  exact ⟨h.res.chg hc (fun e => by omega), Below.chg h.below hc (Nat.le_of_lt h.lt) (fun k e => by omega), hn⟩
end
theorem Ak.start (w : World) (rs : Array Value) : Ak w w.heap.size rs (w.alloc (.cells rs 44)) := ⟨Holds.new _ _ _, below_alloc _ _, Nat.le_refl _⟩
theorem Ak.two (w : World) (cs rs : Array Value) : Ak w (w.heap.size + 1) rs ((w.alloc (.cells cs 77)).alloc (.cells rs 44)) := by
  have h2 := Holds.new (w.alloc (.cells cs 77)) 44 rs
  rw [size_alloc] at h2
  exact ⟨h2, ((Below.refl _ _).alloc (Nat.le_refl _) _).alloc (by simp) _, Nat.le_succ _⟩
theorem sat_no (w : World) (lo off hp ro bo left l : Int) (ho : -1125899906842624 ≤ off ∧ off ≤ 1125899906842624) (h : timeB l = false ∨ timeB l = true ∧ timeB (l + off) = false) :
    Calls Tryz.prog 28 #[.agg #[.int .i64 lo, .int .i64 off, .int .i64 hp, .int .i64 ro, .int .u16 bo, .int .i64 left], .int .i64 l] w fun e w' => e = .returned (.tuple #[.agg #[.int .i64 0, .int .i64 0, .int .i64 0, .int .u16 0, .int .i64 0], .int .i64 8]) ∧ Below w.heap.size w w' := by
  have hk := Ak.two w #[.int .i64 lo, .int .i64 off, .int .i64 hp, .int .i64 ro, .int .u16 bo, .int .i64 left] #[.int .i64 0, .int .i64 0, .int .i64 0, .int .u16 0, .int .i64 0]
  have hx := (Holds.new w 77 #[.int .i64 lo, .int .i64 off, .int .i64 hp, .int .i64 ro, .int .u16 bo, .int .i64 left]).alloc (.cells #[.int .i64 0, .int .i64 0, .int .i64 0, .int .u16 0, .int .i64 0] 44)
  obtain ⟨V, hV⟩ : ∃ V, V = (w.alloc (.cells #[.int .i64 lo, .int .i64 off, .int .i64 hp, .int .i64 ro, .int .u16 bo, .int .i64 left] 77)).alloc (.cells #[.int .i64 0, .int .i64 0, .int .i64 0, .int .u16 0, .int .i64 0] 44) := ⟨_, rfl⟩
  rw [← hV] at hk hx
  have HK := Lib.hid hk
  have x1 := hx.cell 1
  have x2 := hx.cell 2
  have x3 := hx.cell 3
  have x4 := hx.cell 4
  have hl := fun W => stime_any l W
  have hsp : splice ([.int .i64 0, .int .i64 0, .int .i64 0, .int .u16 0, .int .i64 0] : List Value) 0 ([.int .i64 0, .int .i64 0, .int .i64 0, .int .u16 0, .int .i64 0] : List Value) = [.int .i64 0, .int .i64 0, .int .i64 0, .int .u16 0, .int .i64 0] := splice_all _ _ rfl
  rcases h with h | ⟨h, h2⟩
  · rw [h] at hl
    clear hk hx h
    go_enter Tryz.func28, Tryz.ntmps28
    go_upto_region 1 with fail
    rw [← hV]
    clear hV
    go_wp2_with (first
      | (go_at_call 58; (with_reducible refine (hl _).mono ?_); rintro e wx ⟨rfl, hwx⟩; subst wx)
      | (refine wpList_store_at rfl 44 (.tmp 4) (.tmp 18) rfl (w.heap.size + 1) 0 [.int .i64 0, .int .i64 0, .int .i64 0, .int .u16 0, .int .i64 0] rfl rfl 44 [.int .i64 0, .int .i64 0, .int .i64 0, .int .u16 0, .int .i64 0] HK.out.res (by kernel_rfl) (Nat.le_refl 5) (one_ans _ _ _ _ _) ?_; rw [hsp]; replace HK := Lib.hid (HK.out.answer [.int .i64 0, .int .i64 0, .int .i64 0, .int .u16 0, .int .i64 0])))
    refine bodyPost_ret (results_row_tmp rfl _ _ (w.heap.size + 1) 44 [.int .i64 0, .int .i64 0, .int .i64 0, .int .u16 0, .int .i64 0] _ _ rfl HK.out.res Tryz.underlying44 rfl (by kernel_rfl) rfl) rfl ?_
    exact ⟨rfl, HK.out.below⟩
  · have hl2 := fun W => stime_any (l + off) W
    rw [h2] at hl2
    rw [h] at hl
    obtain ⟨k0, k1⟩ := (timeB_iff l).1 h
    have ew := IntWalk.i64_in (l + off) (by omega)
    clear hk hx h h2 k0 k1
    go_enter Tryz.func28, Tryz.ntmps28
    go_upto_region 1 with fail
    rw [← hV]
    clear hV
    go_wp2_with (first
      | (go_at_call 58; (with_reducible refine (hl _).mono ?_); rintro e wx ⟨rfl, hwx⟩; subst wx)
      | (go_at_call 58; (with_reducible refine (hl2 _).mono ?_); rintro e wx ⟨rfl, hwx⟩; subst wx)
      | (refine wpList_store_at rfl 44 (.tmp 4) (.tmp 18) rfl (w.heap.size + 1) 0 [.int .i64 0, .int .i64 0, .int .i64 0, .int .u16 0, .int .i64 0] rfl rfl 44 [.int .i64 0, .int .i64 0, .int .i64 0, .int .u16 0, .int .i64 0] HK.out.res (by kernel_rfl) (Nat.le_refl 5) (one_ans _ _ _ _ _) ?_; rw [hsp]; replace HK := Lib.hid (HK.out.answer [.int .i64 0, .int .i64 0, .int .i64 0, .int .u16 0, .int .i64 0])))
    refine bodyPost_ret (results_row_tmp rfl _ _ (w.heap.size + 1) 44 [.int .i64 0, .int .i64 0, .int .i64 0, .int .u16 0, .int .i64 0] _ _ rfl HK.out.res Tryz.underlying44 rfl (by kernel_rfl) rfl) rfl ?_
    exact ⟨rfl, HK.out.below⟩
theorem sat_yes (w : World) (lo off hp ro bo left l : Int) (ho : -1125899906842624 ≤ off ∧ off ≤ 1125899906842624) (h : timeB l = true) (h2 : timeB (l + off) = true) :
    Calls Tryz.prog 28 #[.agg #[.int .i64 lo, .int .i64 off, .int .i64 hp, .int .i64 ro, .int .u16 bo, .int .i64 left], .int .i64 l] w fun e w' => e = .returned (.tuple #[.agg #[.int .i64 (l + off), .int .i64 hp, .int .i64 ro, .int .u16 bo, .int .i64 3], .int .i64 0]) ∧ Below w.heap.size w w' := by
  have hk := Ak.two w #[.int .i64 lo, .int .i64 off, .int .i64 hp, .int .i64 ro, .int .u16 bo, .int .i64 left] #[.int .i64 0, .int .i64 0, .int .i64 0, .int .u16 0, .int .i64 0]
  have hx := (Holds.new w 77 #[.int .i64 lo, .int .i64 off, .int .i64 hp, .int .i64 ro, .int .u16 bo, .int .i64 left]).alloc (.cells #[.int .i64 0, .int .i64 0, .int .i64 0, .int .u16 0, .int .i64 0] 44)
  obtain ⟨V, hV⟩ : ∃ V, V = (w.alloc (.cells #[.int .i64 lo, .int .i64 off, .int .i64 hp, .int .i64 ro, .int .u16 bo, .int .i64 left] 77)).alloc (.cells #[.int .i64 0, .int .i64 0, .int .i64 0, .int .u16 0, .int .i64 0] 44) := ⟨_, rfl⟩
  rw [← hV] at hk hx
  have HK := Lib.hid hk
  have x1 := hx.cell 1
  have x2 := hx.cell 2
  have x3 := hx.cell 3
  have x4 := hx.cell 4
  have hl := fun W => stime_any l W
  have hsp : splice ([.int .i64 0, .int .i64 0, .int .i64 0, .int .u16 0, .int .i64 0] : List Value) 0 ([.int .i64 0, .int .i64 0, .int .i64 0, .int .u16 0, .int .i64 0] : List Value) = [.int .i64 0, .int .i64 0, .int .i64 0, .int .u16 0, .int .i64 0] := splice_all _ _ rfl
  have hl2 := fun W => stime_any (l + off) W
  have hsp2 : splice ([.int .i64 0, .int .i64 0, .int .i64 0, .int .u16 0, .int .i64 0] : List Value) 0 ([.int .i64 (l + off), .int .i64 hp, .int .i64 ro, .int .u16 bo, .int .i64 3] : List Value) = [.int .i64 (l + off), .int .i64 hp, .int .i64 ro, .int .u16 bo, .int .i64 3] := splice_all _ _ rfl
  rw [h2] at hl2
  rw [h] at hl
  obtain ⟨k0, k1⟩ := (timeB_iff l).1 h
  have ew := IntWalk.i64_in (l + off) (by omega)
  clear hk hx h h2 k0 k1 hsp
  go_enter Tryz.func28, Tryz.ntmps28
  go_upto_region 1 with fail
  rw [← hV]
  clear hV
  go_wp2_with (first
    | (go_at_call 58; (with_reducible refine (hl _).mono ?_); rintro e wx ⟨rfl, hwx⟩; subst wx)
    | (go_at_call 58; (with_reducible refine (hl2 _).mono ?_); rintro e wx ⟨rfl, hwx⟩; subst wx)
    | (refine wpList_store_at rfl 44 (.tmp 4) (.tmp 29) rfl (w.heap.size + 1) 0 [.int .i64 (l + off), .int .i64 hp, .int .i64 ro, .int .u16 bo, .int .i64 3] rfl rfl 44 [.int .i64 0, .int .i64 0, .int .i64 0, .int .u16 0, .int .i64 0] HK.out.res (by kernel_rfl) (Nat.le_refl 5) (one_ans _ _ _ _ _) ?_; rw [hsp2]; replace HK := Lib.hid (HK.out.answer [.int .i64 (l + off), .int .i64 hp, .int .i64 ro, .int .u16 bo, .int .i64 3])))
  refine bodyPost_ret (results_row_tmp rfl _ _ (w.heap.size + 1) 44 [.int .i64 (l + off), .int .i64 hp, .int .i64 ro, .int .u16 bo, .int .i64 3] _ _ rfl HK.out.res Tryz.underlying44 rfl (by kernel_rfl) rfl) rfl ?_
  exact ⟨rfl, HK.out.below⟩
theorem smark_at {w : World} {B g b n : Nat} {s : St} (h : En w B g b n s) {v0 v1 : Int} {c : Bool} (hv : saidV s = (v0, v1)) (hc : saidB s = c) : Calls Tryz.prog 56 #[.pointer (some ⟨g, 0, none⟩)] w fun e w' => e = .returned (.tuple #[.agg #[.int .u16 v0, .int .u16 v1], .bool c]) ∧ Below w.heap.size w w' := by
  have k := emark_any w B g b n s h
  rw [hv, hc] at k
  exact k
theorem sroot_at {w : World} {B g b n : Nat} {s : St} (h : En w B g b n s) {r : Int} (hr : s.root = r) : Calls Tryz.prog 57 #[.pointer (some ⟨g, 0, none⟩)] w fun e w' => e = .returned (.int .i64 r) ∧ w = w' := by
  have k := eroot_any w B g b n s h
  rw [hr] at k
  exact k
theorem sfl_no (w : World) (B gf g b n : Nat) (f : FS) (h : Fo w B gf g b n f) (hI : FInv f) (lo t hp v : Int) (ht : Tells f lo t hp v) (hv : v ≠ 0) :
    Calls Tryz.prog 27 #[.pointer (some ⟨gf, 0, none⟩), .int .i64 lo] w fun e w' => e = .returned (.tuple #[.agg #[.int .i64 0, .int .i64 0, .int .i64 0, .int .u16 0, .int .i64 0], .int .i64 v]) ∧ Below w.heap.size w w' := by
  have htm := ftell_any _ B gf g b n f (h.below (below_alloc w (.cells #[.int .i64 0, .int .i64 0, .int .i64 0, .int .u16 0, .int .i64 0] 44))) hI lo t hp v ht
  have HK := Lib.hid (Ak.start w #[.int .i64 0, .int .i64 0, .int .i64 0, .int .u16 0, .int .i64 0])
  have hsp : splice ([.int .i64 0, .int .i64 0, .int .i64 0, .int .u16 0, .int .i64 0] : List Value) 0 ([.int .i64 0, .int .i64 0, .int .i64 0, .int .u16 0, .int .i64 0] : List Value) = [.int .i64 0, .int .i64 0, .int .i64 0, .int .u16 0, .int .i64 0] := splice_all _ _ rfl
  have dv : (v != 0) = true := by simpa using hv
  clear h hI ht hv
  go_enter Tryz.func27, Tryz.ntmps27
  go_wp2_with (first
    | (go_at_call 55; refine htm.mono ?_; rintro e w4 ⟨rfl, hb4⟩; replace HK := Lib.hid (HK.out.next hb4); clear hb4)
    | (refine wpList_store_at rfl 44 (.tmp 4) (.tmp 21) rfl (w.heap.size) 0 [.int .i64 0, .int .i64 0, .int .i64 0, .int .u16 0, .int .i64 0] rfl rfl 44 [.int .i64 0, .int .i64 0, .int .i64 0, .int .u16 0, .int .i64 0] HK.out.res (by kernel_rfl) (Nat.le_refl 5) (one_ans _ _ _ _ _) ?_; rw [hsp]; replace HK := Lib.hid (HK.out.answer [.int .i64 0, .int .i64 0, .int .i64 0, .int .u16 0, .int .i64 0])))
  refine bodyPost_ret (results_row_tmp rfl _ _ (w.heap.size) 44 [.int .i64 0, .int .i64 0, .int .i64 0, .int .u16 0, .int .i64 0] _ _ rfl HK.out.res Tryz.underlying44 rfl (by kernel_rfl) rfl) rfl ?_
  exact ⟨rfl, HK.out.below⟩
set_option maxHeartbeats 4000000 in
set_option maxRecDepth 100000 in
theorem sfl_yes (w : World) (B gf g b n : Nat) (f : FS) (h : Fo w B gf g b n f) (hI : FInv f) (lo t hp r m0 y : Int) (ht : Tells f lo t hp 0) (hr : f.s.root = r) (hm : (saidV f.s).1 = m0) (hy : (if minB f = true then 1 else 2) = y) :
    Calls Tryz.prog 27 #[.pointer (some ⟨gf, 0, none⟩), .int .i64 lo] w fun e w' => e = .returned (.tuple #[.agg #[.int .i64 t, .int .i64 hp, .int .i64 r, .int .u16 m0, .int .i64 y], .int .i64 0]) ∧ Below w.heap.size w w' := by
  have hf1 := h.below (below_alloc w (.cells #[.int .i64 0, .int .i64 0, .int .i64 0, .int .u16 0, .int .i64 0] 44))
  have htm := ftell_any _ B gf g b n f hf1 hI lo t hp 0 ht
  have HF := Lib.hid hf1
  have HK := Lib.hid (Ak.start w #[.int .i64 0, .int .i64 0, .int .i64 0, .int .u16 0, .int .i64 0])
  obtain ⟨m1, hm1⟩ : ∃ m1, saidV f.s = (m0, m1) := ⟨_, by rw [← hm]⟩
  obtain ⟨c, hc⟩ : ∃ c, saidB f.s = c := ⟨_, rfl⟩
  have HMk := Lib.hid (fun W (hw : Fo W B gf g b n f) => smark_at hw.node hm1 hc)
  have HRo := Lib.hid (fun W (hw : Fo W B gf g b n f) => sroot_at hw.node hr)
  obtain ⟨X, hX⟩ : ∃ X, minB f = X := ⟨_, rfl⟩
  have HMi := Lib.hid (fun W (hw : Fo W B gf g b n f) => mine_at hw.node (v := X) hX)
  rw [hX] at hy
  have hsp1 : splice ([.int .i64 0, .int .i64 0, .int .i64 0, .int .u16 0, .int .i64 0] : List Value) 0 ([.int .i64 t, .int .i64 hp, .int .i64 r, .int .u16 m0, .int .i64 1] : List Value) = [.int .i64 t, .int .i64 hp, .int .i64 r, .int .u16 m0, .int .i64 1] := splice_all _ _ rfl
  have hsp2 : splice ([.int .i64 0, .int .i64 0, .int .i64 0, .int .u16 0, .int .i64 0] : List Value) 0 ([.int .i64 t, .int .i64 hp, .int .i64 r, .int .u16 m0, .int .i64 2] : List Value) = [.int .i64 t, .int .i64 hp, .int .i64 r, .int .u16 m0, .int .i64 2] := splice_all _ _ rfl
  have dv : ((0 : Int) != 0) = false := rfl
  clear h hI ht hf1 hm1 hc hX hr hm
  go_enter Tryz.func27, Tryz.ntmps27
  go_upto_region 5 with (first
    | (go_at_call 55; refine htm.mono ?_; rintro e w4 ⟨rfl, hb4⟩; replace HK := Lib.hid (HK.out.next hb4); replace HF := Lib.hid (HF.out.below hb4); clear hb4; have k0 := HF.out.cells.1; have hmk := HMk.out _ HF.out)
    | (go_at_call 56; refine hmk.mono ?_; rintro e w5 ⟨rfl, hb5⟩; replace HK := Lib.hid (HK.out.next hb5); replace HF := Lib.hid (HF.out.below hb5); clear hb5 k0 hmk))
  have hv1 := HK.out.alloc (.cells #[.int .u16 m0, .int .u16 m1] 99)
  have hv2 := Holds.new w5 99 #[.int .u16 m0, .int .u16 m1]
  have hv3 := HF.out.below (below_alloc w5 (.cells #[.int .u16 m0, .int .u16 m1] 99))
  obtain ⟨V1, hV1⟩ : ∃ V1, V1 = w5.alloc (.cells #[.int .u16 m0, .int .u16 m1] 99) := ⟨_, rfl⟩
  rw [← hV1] at hv1 hv2 hv3 ⊢
  clear hV1
  replace HK : Hid (Ak w w.heap.size _ V1.drew) := Lib.hid (hv1.drewN 1)
  replace HF : Hid (Fo V1.drew B gf g b n f) := Lib.hid (hv3.drewN 1)
  have HM : Hid (Holds V1.drew w5.heap.size 99 _) := Lib.hid (hv2.drewN 1)
  clear hv1 hv2 hv3
  obtain ⟨xm, hxm⟩ : ∃ xm, w5.heap.size = xm := ⟨_, rfl⟩
  rw [hxm] at HM
  simp only [hxm]
  clear hxm
  refine region_turns (fun (w' : World) => w'.cell? ⟨gf, 0, none⟩ = some (.pointer (some ⟨g, 0, none⟩)) ∧ w'.cell? ⟨xm, 0, none⟩ = some (.int .u16 m0)) (fun j => decide (13 ≤ j)) (by kernel_rfl) (⟨HF.out.cells.1, HM.out.cell 0⟩) (fun hS => ?_)
  refine Turns.take hS 0 _ rfl (by kernel_rfl) (by kernel_rfl) (by kernel_rfl) (by kernel_rfl) (fun _ _ _ h => h) (by rfl) (fun w' hS' => by (try dsimp only at hS'); go_split_ands; go_simp; (try with_reducible rfl)) ?_
  simp only [Act.put, List.getElem_toArray, List.getElem_cons_succ, List.getElem_cons_zero, List.setIfInBounds_toArray, List.set_cons_zero, List.set_cons_succ]
  refine Turns.take hS 1 _ rfl (by kernel_rfl) (by kernel_rfl) (by kernel_rfl) (by kernel_rfl) (fun _ _ _ h => h) (by rfl) (fun w' hS' => by (try dsimp only at hS'); go_split_ands; go_simp; (try with_reducible rfl)) ?_
  simp only [Act.put, List.getElem_toArray, List.getElem_cons_succ, List.getElem_cons_zero, List.setIfInBounds_toArray, List.set_cons_zero, List.set_cons_succ]
  refine Turns.take hS 2 _ rfl (by kernel_rfl) (by kernel_rfl) (by kernel_rfl) (by kernel_rfl) (fun _ _ _ h => h) (by rfl) (fun w' hS' => by (try dsimp only at hS'); go_split_ands; go_simp; (try with_reducible rfl)) ?_
  simp only [Act.put, List.getElem_toArray, List.getElem_cons_succ, List.getElem_cons_zero, List.setIfInBounds_toArray, List.set_cons_zero, List.set_cons_succ]
  refine Turns.take hS 3 _ rfl (by kernel_rfl) (by kernel_rfl) (by kernel_rfl) (by kernel_rfl) (fun _ _ _ h => h) (by rfl) (fun w' hS' => by (try dsimp only at hS'); go_split_ands; go_simp; (try with_reducible rfl)) ?_
  simp only [Act.put, List.getElem_toArray, List.getElem_cons_succ, List.getElem_cons_zero, List.setIfInBounds_toArray, List.set_cons_zero, List.set_cons_succ]
  refine Turns.take hS 4 _ rfl (by kernel_rfl) (by kernel_rfl) (by kernel_rfl) (by kernel_rfl) (fun _ _ _ h => h) (by rfl) (fun w' hS' => by (try dsimp only at hS'); go_split_ands; go_simp; (try with_reducible rfl)) ?_
  simp only [Act.put, List.getElem_toArray, List.getElem_cons_succ, List.getElem_cons_zero, List.setIfInBounds_toArray, List.set_cons_zero, List.set_cons_succ]
  refine Turns.take hS 5 _ rfl (by kernel_rfl) (by kernel_rfl) (by kernel_rfl) (by kernel_rfl) (fun _ _ _ h => h) (by rfl) (fun w' hS' => by (try dsimp only at hS'); go_split_ands; go_simp; (try with_reducible rfl)) ?_
  simp only [Act.put, List.getElem_toArray, List.getElem_cons_succ, List.getElem_cons_zero, List.setIfInBounds_toArray, List.set_cons_zero, List.set_cons_succ]
  refine Turns.take hS 7 _ rfl (by kernel_rfl) (by kernel_rfl) (by kernel_rfl) (by kernel_rfl) (fun _ _ _ h => h) (by rfl) (fun w' hS' => by (try dsimp only at hS'); go_split_ands; go_simp; (try with_reducible rfl)) ?_
  simp only [Act.put, List.getElem_toArray, List.getElem_cons_succ, List.getElem_cons_zero, List.setIfInBounds_toArray, List.set_cons_zero, List.set_cons_succ]
  refine Turns.take hS 8 _ rfl (by kernel_rfl) (by kernel_rfl) (by kernel_rfl) (by kernel_rfl) (fun _ _ _ h => h) (by rfl) (fun w' hS' => by (try dsimp only at hS'); go_split_ands; go_simp; (try with_reducible rfl)) ?_
  simp only [Act.put, List.getElem_toArray, List.getElem_cons_succ, List.getElem_cons_zero, List.setIfInBounds_toArray, List.set_cons_zero, List.set_cons_succ]
  refine Turns.either 6 11 rfl rfl (by kernel_rfl) (by rfl) (by rfl) (fun K hK => ?_) (fun K hK => ?_)
  · go_simp
    go_at_call 57
    refine (HRo.out _ HF.out).mono ?_
    rintro e wx ⟨rfl, hwx⟩
    subst wx
    refine hK.out _ _ (show (fun (w' : World) => w'.cell? ⟨gf, 0, none⟩ = some (.pointer (some ⟨g, 0, none⟩)) ∧ w'.cell? ⟨xm, 0, none⟩ = some (.int .u16 m0)) _ from ⟨HF.out.cells.1, HM.out.cell 0⟩) ?_
    clear hK K hS
    have hS := (show (fun (w' : World) => w'.cell? ⟨gf, 0, none⟩ = some (.pointer (some ⟨g, 0, none⟩)) ∧ w'.cell? ⟨xm, 0, none⟩ = some (.int .u16 m0)) _ from ⟨HF.out.cells.1, HM.out.cell 0⟩)
    refine Turns.take hS 9 _ rfl (by kernel_rfl) (by kernel_rfl) (by kernel_rfl) (by kernel_rfl) (fun _ _ _ h => h) (by rfl) (fun w' hS' => by (try dsimp only at hS'); go_split_ands; go_simp; (try with_reducible rfl)) ?_
    simp only [Act.put, List.getElem_toArray, List.getElem_cons_succ, List.getElem_cons_zero, List.setIfInBounds_toArray, List.set_cons_zero, List.set_cons_succ]
    refine Turns.take hS 10 _ rfl (by kernel_rfl) (by kernel_rfl) (by kernel_rfl) (by kernel_rfl) (fun _ _ _ h => h) (by rfl) (fun w' hS' => by (try dsimp only at hS'); go_split_ands; go_simp; (try with_reducible rfl)) ?_
    simp only [Act.put, List.getElem_toArray, List.getElem_cons_succ, List.getElem_cons_zero, List.setIfInBounds_toArray, List.set_cons_zero, List.set_cons_succ]
    refine Turns.next 11 rfl (by kernel_rfl) (by rfl) (fun K hK => ?_)
    go_simp
    have hlt : gf < V1.heap.size ∧ g < V1.heap.size ∧ b < V1.heap.size ∧ w.heap.size < V1.heap.size ∧ xm < V1.heap.size := ⟨HF.out.lt, HF.out.node.lt, HF.out.node.ltb, HK.out.lt, HM.out.lt⟩
    have he := Holds.new V1 44 #[.int .i64 0, .int .i64 0, .int .i64 0, .int .u16 0, .int .i64 0]
    replace HK : Hid (Ak w w.heap.size #[.int .i64 0, .int .i64 0, .int .i64 0, .int .u16 0, .int .i64 0] (V1.alloc (.cells #[.int .i64 0, .int .i64 0, .int .i64 0, .int .u16 0, .int .i64 0] 44)).drew) := Lib.hid (HK.out.alloc (.cells #[.int .i64 0, .int .i64 0, .int .i64 0, .int .u16 0, .int .i64 0] 44))
    replace HF : Hid (Fo (V1.alloc (.cells #[.int .i64 0, .int .i64 0, .int .i64 0, .int .u16 0, .int .i64 0] 44)).drew B gf g b n f) := Lib.hid (HF.out.below (below_alloc _ (.cells #[.int .i64 0, .int .i64 0, .int .i64 0, .int .u16 0, .int .i64 0] 44)))
    replace HM : Hid (Holds (V1.alloc (.cells #[.int .i64 0, .int .i64 0, .int .i64 0, .int .u16 0, .int .i64 0] 44)).drew xm 99 _) := Lib.hid (HM.out.alloc (.cells #[.int .i64 0, .int .i64 0, .int .i64 0, .int .u16 0, .int .i64 0] 44))
    have HE : Hid (Holds (V1.alloc (.cells #[.int .i64 0, .int .i64 0, .int .i64 0, .int .u16 0, .int .i64 0] 44)).drew V1.heap.size 44 _) := Lib.hid he
    obtain ⟨xe, hxe⟩ : ∃ xe, V1.heap.size = xe := ⟨_, rfl⟩
    rw [hxe] at hlt HE
    simp only [hxe]
    obtain ⟨U, hU⟩ : ∃ U, U = (V1.alloc (.cells #[.int .i64 0, .int .i64 0, .int .i64 0, .int .u16 0, .int .i64 0] 44)).drew := ⟨_, rfl⟩
    rw [← hU] at HK HF HM HE ⊢
    have HLT := Lib.hid hlt
    clear hxe hU hlt he
    refine hK.out _ _ (show (fun (w' : World) => w'.cell? ⟨gf, 0, none⟩ = some (.pointer (some ⟨g, 0, none⟩)) ∧ w'.cell? ⟨xm, 0, none⟩ = some (.int .u16 m0)) _ from ⟨HF.out.cells.1, HM.out.cell 0⟩) ?_
    clear hK K hS
    have hS := (show (fun (w' : World) => w'.cell? ⟨gf, 0, none⟩ = some (.pointer (some ⟨g, 0, none⟩)) ∧ w'.cell? ⟨xm, 0, none⟩ = some (.int .u16 m0)) _ from ⟨HF.out.cells.1, HM.out.cell 0⟩)
    refine Turns.next 12 rfl (by kernel_rfl) (by rfl) (fun K hK => ?_)
    simp only [List.getElem_toArray, List.getElem_cons_succ, List.getElem_cons_zero]
    refine wp_store_at 44 (.tmp 11) (.tmp 41) rfl xe 0 [.int .i64 t, .int .i64 hp, .int .i64 r, .int .u16 m0, .int .i64 2] ?hs ?hx 44 [.int .i64 0, .int .i64 0, .int .i64 0, .int .u16 0, .int .i64 0] HE.out (by kernel_rfl) (Nat.le_refl 5) (one_ans _ _ _ _ _) ?_
    case hs => first | rfl | simp [Act.eval, Act.put]
    case hx => first | rfl | simp [Act.eval, Act.put]
    rw [hsp2]
    have hcr := Chg.of_grown (grown_row U xe [.int .i64 t, .int .i64 hp, .int .i64 r, .int .u16 m0, .int .i64 2].toArray) (S := fun k => k = xe) (fun k e => by cases e; rfl)
    replace HK := Lib.hid (HK.out.other xe [.int .i64 t, .int .i64 hp, .int .i64 r, .int .u16 m0, .int .i64 2] HLT.out.2.2.2.1)
    replace HM := Lib.hid (HM.out.chg hcr (fun e => by have := HLT.out; omega))
    replace HF := Lib.hid (HF.out.chg hcr (fun k hk e => by have := HLT.out; rcases hk with q | q | q <;> omega))
    replace HE := Lib.hid (HE.out.row [.int .i64 t, .int .i64 hp, .int .i64 r, .int .u16 m0, .int .i64 2].toArray)
    obtain ⟨W3, hW3⟩ : ∃ W3, W3 = U.setRow xe [.int .i64 t, .int .i64 hp, .int .i64 r, .int .u16 m0, .int .i64 2].toArray := ⟨_, rfl⟩
    rw [← hW3] at HK HM HF HE ⊢
    clear hW3 hcr
    refine hK.out _ _ (show (fun (w' : World) => w'.cell? ⟨gf, 0, none⟩ = some (.pointer (some ⟨g, 0, none⟩)) ∧ w'.cell? ⟨xm, 0, none⟩ = some (.int .u16 m0)) _ from ⟨HF.out.cells.1, HM.out.cell 0⟩) ?_
    clear hK K hS
    have hS := (show (fun (w' : World) => w'.cell? ⟨gf, 0, none⟩ = some (.pointer (some ⟨g, 0, none⟩)) ∧ w'.cell? ⟨xm, 0, none⟩ = some (.int .u16 m0)) _ from ⟨HF.out.cells.1, HM.out.cell 0⟩)
    refine Turns.rest (late_done (by kernel_rfl)) ?_
    refine any_tail 13 (by rfl) (by kernel_rfl) ?_
    simp only [List.drop_succ_cons, List.drop_zero]
    clear hS
    have hmi := HMi.out _ HF.out
    have q0 := HF.out.cells.1
    cases X with
    | true =>
      obtain rfl : y = 1 := by rw [← hy]; rfl
      go_wp2_with (first
        | (go_at_call 40; refine hmi.mono ?_; rintro e w6 ⟨rfl, nq, rfl⟩; replace HK := Lib.hid ((HK.out.drewN nq).set xe 4 (.int .i64 1) HLT.out.2.2.2.1); have he2 := HE.out.drewN nq; have e0 := he2.cell 0; have e1 := he2.cell 1; have e2 := he2.cell 2; have e3 := he2.cell 3; have e4 := he2.cell 4; have s4 := he2.soft 4; clear he2)
        | (refine wpList_store_at rfl 44 (.tmp 4) (.tmp 48) rfl (w.heap.size) 0 [.int .i64 t, .int .i64 hp, .int .i64 r, .int .u16 m0, .int .i64 1] rfl rfl 44 [.int .i64 0, .int .i64 0, .int .i64 0, .int .u16 0, .int .i64 0] HK.out.res (by kernel_rfl) (Nat.le_refl 5) (one_ans _ _ _ _ _) ?_; rw [hsp1]; replace HK := Lib.hid (HK.out.answer [.int .i64 t, .int .i64 hp, .int .i64 r, .int .u16 m0, .int .i64 1])))
      refine bodyPost_ret (results_row_tmp rfl _ _ (w.heap.size) 44 [.int .i64 t, .int .i64 hp, .int .i64 r, .int .u16 m0, .int .i64 1] _ _ rfl HK.out.res Tryz.underlying44 rfl (by kernel_rfl) rfl) rfl ?_
      exact ⟨rfl, HK.out.below⟩
    | false =>
      obtain rfl : y = 2 := by rw [← hy]; rfl
      go_wp2_with (first
        | (go_at_call 40; refine hmi.mono ?_; rintro e w6 ⟨rfl, nq, rfl⟩; replace HK := Lib.hid (HK.out.drewN nq); have he2 := HE.out.drewN nq; have e0 := he2.cell 0; have e1 := he2.cell 1; have e2 := he2.cell 2; have e3 := he2.cell 3; have e4 := he2.cell 4; clear he2)
        | (refine wpList_store_at rfl 44 (.tmp 4) (.tmp 48) rfl (w.heap.size) 0 [.int .i64 t, .int .i64 hp, .int .i64 r, .int .u16 m0, .int .i64 2] rfl rfl 44 [.int .i64 0, .int .i64 0, .int .i64 0, .int .u16 0, .int .i64 0] HK.out.res (by kernel_rfl) (Nat.le_refl 5) (one_ans _ _ _ _ _) ?_; rw [hsp2]; replace HK := Lib.hid (HK.out.answer [.int .i64 t, .int .i64 hp, .int .i64 r, .int .u16 m0, .int .i64 2])))
      refine bodyPost_ret (results_row_tmp rfl _ _ (w.heap.size) 44 [.int .i64 t, .int .i64 hp, .int .i64 r, .int .u16 m0, .int .i64 2] _ _ rfl HK.out.res Tryz.underlying44 rfl (by kernel_rfl) rfl) rfl ?_
      exact ⟨rfl, HK.out.below⟩
  · go_simp
    have hlt : gf < V1.heap.size ∧ g < V1.heap.size ∧ b < V1.heap.size ∧ w.heap.size < V1.heap.size ∧ xm < V1.heap.size := ⟨HF.out.lt, HF.out.node.lt, HF.out.node.ltb, HK.out.lt, HM.out.lt⟩
    have he := Holds.new V1 44 #[.int .i64 0, .int .i64 0, .int .i64 0, .int .u16 0, .int .i64 0]
    replace HK : Hid (Ak w w.heap.size #[.int .i64 0, .int .i64 0, .int .i64 0, .int .u16 0, .int .i64 0] (V1.alloc (.cells #[.int .i64 0, .int .i64 0, .int .i64 0, .int .u16 0, .int .i64 0] 44)).drew) := Lib.hid (HK.out.alloc (.cells #[.int .i64 0, .int .i64 0, .int .i64 0, .int .u16 0, .int .i64 0] 44))
    replace HF : Hid (Fo (V1.alloc (.cells #[.int .i64 0, .int .i64 0, .int .i64 0, .int .u16 0, .int .i64 0] 44)).drew B gf g b n f) := Lib.hid (HF.out.below (below_alloc _ (.cells #[.int .i64 0, .int .i64 0, .int .i64 0, .int .u16 0, .int .i64 0] 44)))
    replace HM : Hid (Holds (V1.alloc (.cells #[.int .i64 0, .int .i64 0, .int .i64 0, .int .u16 0, .int .i64 0] 44)).drew xm 99 _) := Lib.hid (HM.out.alloc (.cells #[.int .i64 0, .int .i64 0, .int .i64 0, .int .u16 0, .int .i64 0] 44))
    have HE : Hid (Holds (V1.alloc (.cells #[.int .i64 0, .int .i64 0, .int .i64 0, .int .u16 0, .int .i64 0] 44)).drew V1.heap.size 44 _) := Lib.hid he
    obtain ⟨xe, hxe⟩ : ∃ xe, V1.heap.size = xe := ⟨_, rfl⟩
    rw [hxe] at hlt HE
    simp only [hxe]
    obtain ⟨U, hU⟩ : ∃ U, U = (V1.alloc (.cells #[.int .i64 0, .int .i64 0, .int .i64 0, .int .u16 0, .int .i64 0] 44)).drew := ⟨_, rfl⟩
    rw [← hU] at HK HF HM HE ⊢
    have HLT := Lib.hid hlt
    clear hxe hU hlt he
    refine hK.out _ _ (show (fun (w' : World) => w'.cell? ⟨gf, 0, none⟩ = some (.pointer (some ⟨g, 0, none⟩)) ∧ w'.cell? ⟨xm, 0, none⟩ = some (.int .u16 m0)) _ from ⟨HF.out.cells.1, HM.out.cell 0⟩) ?_
    clear hK K hS
    have hS := (show (fun (w' : World) => w'.cell? ⟨gf, 0, none⟩ = some (.pointer (some ⟨g, 0, none⟩)) ∧ w'.cell? ⟨xm, 0, none⟩ = some (.int .u16 m0)) _ from ⟨HF.out.cells.1, HM.out.cell 0⟩)
    refine Turns.next 6 rfl (by kernel_rfl) (by rfl) (fun K hK => ?_)
    go_simp
    go_at_call 57
    refine (HRo.out _ HF.out).mono ?_
    rintro e wx ⟨rfl, hwx⟩
    subst wx
    refine hK.out _ _ (show (fun (w' : World) => w'.cell? ⟨gf, 0, none⟩ = some (.pointer (some ⟨g, 0, none⟩)) ∧ w'.cell? ⟨xm, 0, none⟩ = some (.int .u16 m0)) _ from ⟨HF.out.cells.1, HM.out.cell 0⟩) ?_
    clear hK K hS
    have hS := (show (fun (w' : World) => w'.cell? ⟨gf, 0, none⟩ = some (.pointer (some ⟨g, 0, none⟩)) ∧ w'.cell? ⟨xm, 0, none⟩ = some (.int .u16 m0)) _ from ⟨HF.out.cells.1, HM.out.cell 0⟩)
    refine Turns.take hS 9 _ rfl (by kernel_rfl) (by kernel_rfl) (by kernel_rfl) (by kernel_rfl) (fun _ _ _ h => h) (by rfl) (fun w' hS' => by (try dsimp only at hS'); go_split_ands; go_simp; (try with_reducible rfl)) ?_
    simp only [Act.put, List.getElem_toArray, List.getElem_cons_succ, List.getElem_cons_zero, List.setIfInBounds_toArray, List.set_cons_zero, List.set_cons_succ]
    refine Turns.take hS 10 _ rfl (by kernel_rfl) (by kernel_rfl) (by kernel_rfl) (by kernel_rfl) (fun _ _ _ h => h) (by rfl) (fun w' hS' => by (try dsimp only at hS'); go_split_ands; go_simp; (try with_reducible rfl)) ?_
    simp only [Act.put, List.getElem_toArray, List.getElem_cons_succ, List.getElem_cons_zero, List.setIfInBounds_toArray, List.set_cons_zero, List.set_cons_succ]
    refine Turns.next 12 rfl (by kernel_rfl) (by rfl) (fun K hK => ?_)
    simp only [List.getElem_toArray, List.getElem_cons_succ, List.getElem_cons_zero]
    refine wp_store_at 44 (.tmp 11) (.tmp 41) rfl xe 0 [.int .i64 t, .int .i64 hp, .int .i64 r, .int .u16 m0, .int .i64 2] ?hs ?hx 44 [.int .i64 0, .int .i64 0, .int .i64 0, .int .u16 0, .int .i64 0] HE.out (by kernel_rfl) (Nat.le_refl 5) (one_ans _ _ _ _ _) ?_
    case hs => first | rfl | simp [Act.eval, Act.put]
    case hx => first | rfl | simp [Act.eval, Act.put]
    rw [hsp2]
    have hcr := Chg.of_grown (grown_row U xe [.int .i64 t, .int .i64 hp, .int .i64 r, .int .u16 m0, .int .i64 2].toArray) (S := fun k => k = xe) (fun k e => by cases e; rfl)
    replace HK := Lib.hid (HK.out.other xe [.int .i64 t, .int .i64 hp, .int .i64 r, .int .u16 m0, .int .i64 2] HLT.out.2.2.2.1)
    replace HM := Lib.hid (HM.out.chg hcr (fun e => by have := HLT.out; omega))
    replace HF := Lib.hid (HF.out.chg hcr (fun k hk e => by have := HLT.out; rcases hk with q | q | q <;> omega))
    replace HE := Lib.hid (HE.out.row [.int .i64 t, .int .i64 hp, .int .i64 r, .int .u16 m0, .int .i64 2].toArray)
    obtain ⟨W3, hW3⟩ : ∃ W3, W3 = U.setRow xe [.int .i64 t, .int .i64 hp, .int .i64 r, .int .u16 m0, .int .i64 2].toArray := ⟨_, rfl⟩
    rw [← hW3] at HK HM HF HE ⊢
    clear hW3 hcr
    refine hK.out _ _ (show (fun (w' : World) => w'.cell? ⟨gf, 0, none⟩ = some (.pointer (some ⟨g, 0, none⟩)) ∧ w'.cell? ⟨xm, 0, none⟩ = some (.int .u16 m0)) _ from ⟨HF.out.cells.1, HM.out.cell 0⟩) ?_
    clear hK K hS
    have hS := (show (fun (w' : World) => w'.cell? ⟨gf, 0, none⟩ = some (.pointer (some ⟨g, 0, none⟩)) ∧ w'.cell? ⟨xm, 0, none⟩ = some (.int .u16 m0)) _ from ⟨HF.out.cells.1, HM.out.cell 0⟩)
    refine Turns.rest (late_done (by kernel_rfl)) ?_
    refine any_tail 13 (by rfl) (by kernel_rfl) ?_
    simp only [List.drop_succ_cons, List.drop_zero]
    clear hS
    have hmi := HMi.out _ HF.out
    have q0 := HF.out.cells.1
    cases X with
    | true =>
      obtain rfl : y = 1 := by rw [← hy]; rfl
      go_wp2_with (first
        | (go_at_call 40; refine hmi.mono ?_; rintro e w6 ⟨rfl, nq, rfl⟩; replace HK := Lib.hid ((HK.out.drewN nq).set xe 4 (.int .i64 1) HLT.out.2.2.2.1); have he2 := HE.out.drewN nq; have e0 := he2.cell 0; have e1 := he2.cell 1; have e2 := he2.cell 2; have e3 := he2.cell 3; have e4 := he2.cell 4; have s4 := he2.soft 4; clear he2)
        | (refine wpList_store_at rfl 44 (.tmp 4) (.tmp 48) rfl (w.heap.size) 0 [.int .i64 t, .int .i64 hp, .int .i64 r, .int .u16 m0, .int .i64 1] rfl rfl 44 [.int .i64 0, .int .i64 0, .int .i64 0, .int .u16 0, .int .i64 0] HK.out.res (by kernel_rfl) (Nat.le_refl 5) (one_ans _ _ _ _ _) ?_; rw [hsp1]; replace HK := Lib.hid (HK.out.answer [.int .i64 t, .int .i64 hp, .int .i64 r, .int .u16 m0, .int .i64 1])))
      refine bodyPost_ret (results_row_tmp rfl _ _ (w.heap.size) 44 [.int .i64 t, .int .i64 hp, .int .i64 r, .int .u16 m0, .int .i64 1] _ _ rfl HK.out.res Tryz.underlying44 rfl (by kernel_rfl) rfl) rfl ?_
      exact ⟨rfl, HK.out.below⟩
    | false =>
      obtain rfl : y = 2 := by rw [← hy]; rfl
      go_wp2_with (first
        | (go_at_call 40; refine hmi.mono ?_; rintro e w6 ⟨rfl, nq, rfl⟩; replace HK := Lib.hid (HK.out.drewN nq); have he2 := HE.out.drewN nq; have e0 := he2.cell 0; have e1 := he2.cell 1; have e2 := he2.cell 2; have e3 := he2.cell 3; have e4 := he2.cell 4; clear he2)
        | (refine wpList_store_at rfl 44 (.tmp 4) (.tmp 48) rfl (w.heap.size) 0 [.int .i64 t, .int .i64 hp, .int .i64 r, .int .u16 m0, .int .i64 2] rfl rfl 44 [.int .i64 0, .int .i64 0, .int .i64 0, .int .u16 0, .int .i64 0] HK.out.res (by kernel_rfl) (Nat.le_refl 5) (one_ans _ _ _ _ _) ?_; rw [hsp2]; replace HK := Lib.hid (HK.out.answer [.int .i64 t, .int .i64 hp, .int .i64 r, .int .u16 m0, .int .i64 2])))
      refine bodyPost_ret (results_row_tmp rfl _ _ (w.heap.size) 44 [.int .i64 t, .int .i64 hp, .int .i64 r, .int .u16 m0, .int .i64 2] _ _ rfl HK.out.res Tryz.underlying44 rfl (by kernel_rfl) rfl) rfl ?_
      exact ⟨rfl, HK.out.below⟩
end Go.Proofs.YtgmeakcfiaopcaaGreat
