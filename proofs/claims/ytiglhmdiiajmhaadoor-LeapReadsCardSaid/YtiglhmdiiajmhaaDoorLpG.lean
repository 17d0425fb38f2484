/- Package leap: a text is read; what is thrown is caught. -/
import Derived.Test.YtiglhmdiiajmhaaDoorLpF
import Derived.Defers
import Derived.Recover
namespace Go.Proofs.YtiglhmdiiajmhaaDoor
open Go.RowKit
set_option linter.unusedSimpArgs false
set_option linter.unusedVariables false

/-- The three results, as they lie. -/
structure Res3 (w : World) (h : Nat) (a b c : Value) : Prop where
  r0 : Holds w h 26 #[a]
  r1 : Holds w (h + 1) 3 #[b]
  r2 : Holds w (h + 2) 27 #[c]
theorem Res3.below {w w' : World} {h B : Nat} {a b c : Value} (r : Res3 w h a b c) (hb : Below B w w') (hB : h + 2 < B) : Res3 w' h a b c := ⟨r.r0.below hb (by omega), r.r1.below hb (by omega), r.r2.below hb hB⟩
/-- As a fault is told. -/
structure Ct (w : World) (h q : Nat) (line code : Int) (a b c : Value) (W : World) : Prop where
  res : Res3 W h a b c
  below : Below h w W
  box : Holds W q 61 #[.int .i64 line, .int .i64 code]
  lt : h + 2 < q
section
variable {w W : World} {h q : Nat} {line code : Int} {a b c : Value}
theorem Ct.p0 (k : Ct w h q line code a b c W) (v : Value) : Ct w h q line code v b c (W.setCell ⟨h, 0, none⟩ v) := ⟨⟨k.res.r0.put 0 v, k.res.r1.far (by omega) v, k.res.r2.far (by omega) v⟩, k.below.setCell (Nat.le_refl _) _, k.box.far (by have := k.lt; omega) v, k.lt⟩
theorem Ct.p1 (k : Ct w h q line code a b c W) (v : Value) : Ct w h q line code a v c (W.setCell ⟨h + 1, 0, none⟩ v) := ⟨⟨k.res.r0.far (by omega) v, k.res.r1.put 0 v, k.res.r2.far (by omega) v⟩, k.below.setCell (Nat.le_succ _) _, k.box.far (by have := k.lt; omega) v, k.lt⟩
theorem Ct.p2 (k : Ct w h q line code a b c W) (v : Value) : Ct w h q line code a b v (W.setCell ⟨h + 2, 0, none⟩ v) := ⟨⟨k.res.r0.far (by omega) v, k.res.r1.far (by omega) v, k.res.r2.put 0 v⟩, k.below.setCell (by dsimp only; omega) _, k.box.far (by have := k.lt; omega) v, k.lt⟩
theorem Ct.cells (k : Ct w h q line code a b c W) : W.cell? ⟨q, 0, none⟩ = some (.int .i64 line) ∧ W.cell? ⟨q, 1, none⟩ = some (.int .i64 code) := ⟨k.box.cell 0, k.box.cell 1⟩
theorem Ct.start (r : Res3 w h a b c) (line code : Int) : Ct w h w.heap.size line code a b c (w.alloc (.cells #[.int .i64 line, .int .i64 code] 61)).drew :=
  ⟨(r.below ((below_alloc w _).mono (Nat.le_refl _)) r.r2.lt).below (Below.refl w.heap.size _).drew r.r2.lt, ((below_alloc w _).mono (by have := r.r2.lt; omega)).drew, (Holds.new w _ _), r.r2.lt⟩
end
theorem catch_idle (p0 p1 p2 : Value) (w : World) :
    CallsD Tryd.prog 29 #[p0, p1, p2] .returning w fun e u' w' => e = .returned (.tuple #[]) ∧ u' = .returning ∧ w' = w := by
  refine callsD_of_wpS Tryd.func29 rfl fun c₀ cs hu => ?_
  apply wpS_seq
  apply wpS_region
  simp [wpOpsS, go_sem, recoverD, hu, Tryd.ntmps29, Exit.thenS]
  refine wpS_of_wp ?_
  go_wp2
  cases c₀
  simp_all [bodyPostS, results, Tryd.results29]
set_option maxRecDepth 100000 in
set_option maxHeartbeats 2000000 in
theorem catch_fault (h : Nat) (a b c : Value) (line code : Int) (w : World) (hr : Res3 w h a b c) :
    CallsD Tryd.prog 29 #[.pointer (some ⟨h, 0, none⟩), .pointer (some ⟨h + 1, 0, none⟩), .pointer (some ⟨h + 2, 0, none⟩)] (.panicking (faultV line code)) w fun e u' w' =>
      e = .returned (.tuple #[]) ∧ u' = .panicking [{ v := .iface 61 (.agg #[.int .i64 line, .int .i64 code]), recovered := true }] ∧ Res3 w' h (.pointer none) (.int .i64 line) (.int .i64 code) ∧ Below h w w' := by
  unfold faultV
  refine callsD_of_wpS Tryd.func29 rfl fun c₀ cs hu => ?_
  apply wpS_seq
  apply wpS_region
  simp [wpOpsS, go_sem, recoverD, hu, Tryd.ntmps29, Exit.thenS]
  refine wpS_of_wp ?_
  simp only [Array.replicate_succ, Array.replicate_zero, List.push_toArray, List.append_toArray, List.nil_append, List.cons_append, List.setIfInBounds_toArray, List.set_cons_succ, List.set_cons_zero]
  have hta : ∀ W, (Instr.typeAssert (.iface 61 (.agg #[.int .i64 line, .int .i64 code])) 20 61 false).run Tryd.prog W = .ok (.agg #[.int .i64 line, .int .i64 code]) W := fun W => by kernel_rfl
  have HX := Lib.hid (Box.start w 61 #[.int .i64 line, .int .i64 code])
  have HR := Lib.hid hr
  clear hr
  go_upto_region 3 with (fail)
  have HC := Lib.hid (Ct.start HR.out line code)
  obtain ⟨q, hq⟩ : ∃ q, w.heap.size = q := ⟨_, rfl⟩
  simp only [hq] at HC ⊢
  clear hq HR HX
  generalize (w.alloc (.cells #[.int .i64 line, .int .i64 code] 61)) = w1 at HC ⊢
  refine region_turns (fun (w' : World) => w'.cell? ⟨q, 0, none⟩ = some (.int .i64 line) ∧ w'.cell? ⟨q, 1, none⟩ = some (.int .i64 code)) (fun j => decide (7 ≤ j)) (by kernel_rfl) (HC.out.cells) (fun hS => ?_)
  refine Turns.take hS 0 _ rfl (by kernel_rfl) (by kernel_rfl) (by kernel_rfl) (by kernel_rfl) (fun _ _ _ h => h) (by rfl) (fun w' hS' => by (try dsimp only at hS'); go_split_ands; go_simp; (try with_reducible rfl)) ?_
  simp only [Act.put, List.getElem_toArray, List.getElem_cons_succ, List.getElem_cons_zero, List.setIfInBounds_toArray, List.set_cons_zero, List.set_cons_succ]
  refine Turns.take hS 1 _ rfl (by kernel_rfl) (by kernel_rfl) (by kernel_rfl) (by kernel_rfl) (fun _ _ _ h => h) (by rfl) (fun w' hS' => by (try dsimp only at hS'); go_split_ands; go_simp; (try with_reducible rfl)) ?_
  simp only [Act.put, List.getElem_toArray, List.getElem_cons_succ, List.getElem_cons_zero, List.setIfInBounds_toArray, List.set_cons_zero, List.set_cons_succ]
  refine Turns.take hS 2 _ rfl (by kernel_rfl) (by kernel_rfl) (by kernel_rfl) (by kernel_rfl) (fun _ _ _ h => h) (by rfl) (fun w' hS' => by (try dsimp only at hS'); go_split_ands; go_simp; (try with_reducible rfl)) ?_
  simp only [Act.put, List.getElem_toArray, List.getElem_cons_succ, List.getElem_cons_zero, List.setIfInBounds_toArray, List.set_cons_zero, List.set_cons_succ]
  refine Turns.take hS 3 _ rfl (by kernel_rfl) (by kernel_rfl) (by kernel_rfl) (by kernel_rfl) (fun _ _ _ h => h) (by rfl) (fun w' hS' => by (try dsimp only at hS'); go_split_ands; go_simp; (try with_reducible rfl)) ?_
  simp only [Act.put, List.getElem_toArray, List.getElem_cons_succ, List.getElem_cons_zero, List.setIfInBounds_toArray, List.set_cons_zero, List.set_cons_succ]
  refine Turns.next 4 rfl (by kernel_rfl) (by rfl) (fun K hK => ?_)
  have c0 := HC.out.res.r0.cell 0
  have f0 := HC.out.res.r0.soft 0
  replace HC := Lib.hid (show Ct w h q line code (.pointer none) b c (w1.setCell ⟨h, 0, none⟩ (.pointer none)).drew from HC.out.p0 (.pointer none))
  go_simp
  clear c0 f0
  refine hK.out _ _ (show (fun (w' : World) => w'.cell? ⟨q, 0, none⟩ = some (.int .i64 line) ∧ w'.cell? ⟨q, 1, none⟩ = some (.int .i64 code)) _ from HC.out.cells) ?_
  clear hK K hS
  have hS := (show (fun (w' : World) => w'.cell? ⟨q, 0, none⟩ = some (.int .i64 line) ∧ w'.cell? ⟨q, 1, none⟩ = some (.int .i64 code)) _ from HC.out.cells)
  refine Turns.next 5 rfl (by kernel_rfl) (by rfl) (fun K hK => ?_)
  generalize (w1.setCell ⟨h, 0, none⟩ (.pointer none)).drew = w2 at HC hS ⊢
  have c0 := HC.out.res.r1.cell 0
  have f0 := HC.out.res.r1.soft 0
  replace HC := Lib.hid (HC.out.p1 (.int .i64 line))
  go_simp
  clear c0 f0
  refine hK.out _ _ (show (fun (w' : World) => w'.cell? ⟨q, 0, none⟩ = some (.int .i64 line) ∧ w'.cell? ⟨q, 1, none⟩ = some (.int .i64 code)) _ from HC.out.cells) ?_
  clear hK K hS
  have hS := (show (fun (w' : World) => w'.cell? ⟨q, 0, none⟩ = some (.int .i64 line) ∧ w'.cell? ⟨q, 1, none⟩ = some (.int .i64 code)) _ from HC.out.cells)
  refine Turns.next 6 rfl (by kernel_rfl) (by rfl) (fun K hK => ?_)
  generalize w2.setCell ⟨h + 1, 0, none⟩ (.int .i64 line) = w3 at HC hS ⊢
  have c0 := HC.out.res.r2.cell 0
  have f0 := HC.out.res.r2.soft 0
  replace HC := Lib.hid (HC.out.p2 (.int .i64 code))
  go_simp
  clear c0 f0
  refine hK.out _ _ (show (fun (w' : World) => w'.cell? ⟨q, 0, none⟩ = some (.int .i64 line) ∧ w'.cell? ⟨q, 1, none⟩ = some (.int .i64 code)) _ from HC.out.cells) ?_
  clear hK K hS
  have hS := (show (fun (w' : World) => w'.cell? ⟨q, 0, none⟩ = some (.int .i64 line) ∧ w'.cell? ⟨q, 1, none⟩ = some (.int .i64 code)) _ from HC.out.cells)
  refine Turns.rest (late_done (by kernel_rfl)) ?_
  refine any_tail 7 (by rfl) (by kernel_rfl) ?_
  simp only [List.drop_succ_cons, List.drop_zero]
  clear hS
  go_wp2
  have hc := HC.out
  cases c₀
  simp_all [bodyPostS, results, Tryd.results29]
  exact ⟨hc.res, hc.below⟩

/-- Behind Parse. -/
def ReadPost (s : ByteArray) (w : World) (e : Ending) (w' : World) : Prop :=
  ((∃ T q, parseR s = .ok T ∧ e = .returned (.tuple #[.pointer (some ⟨q, 0, none⟩), .int .i64 0, .int .i64 0]) ∧ Tl w' w.heap.size q T) ∨ (∃ (n : Nat) (c : Int), parseR s = .error (n, c) ∧ e = .returned (.tuple #[.pointer none, .int .i64 (n : Int), .int .i64 c]))) ∧ Below w.heap.size w w'
theorem res3_new (w : World) (c : Int) : Res3 (((w.alloc (.cells #[.pointer none] 26)).alloc (.cells #[.int .i64 0] 3)).alloc (.cells #[.int .i64 c] 27)) w.heap.size (.pointer none) (.int .i64 0) (.int .i64 c) := by
  have h0 := Holds.new w 26 #[.pointer none]
  have h1 := Holds.new (w.alloc (.cells #[.pointer none] 26)) 3 #[.int .i64 0]
  have h2 := Holds.new ((w.alloc (.cells #[.pointer none] 26)).alloc (.cells #[.int .i64 0] 3)) 27 #[.int .i64 c]
  rw [size_alloc] at h1
  rw [size_alloc, size_alloc] at h2
  exact ⟨(h0.alloc _).alloc _, h1.alloc _, h2⟩
theorem res3_out {w : World} {h : Nat} {a b c : Value} (r : Res3 w h a b c) (tmps : Array Value) (h2 : tmps.getD 2 undef = .pointer (some ⟨h, 0, none⟩)) (h3 : tmps.getD 3 undef = .pointer (some ⟨h + 1, 0, none⟩)) (h4 : tmps.getD 4 undef = .pointer (some ⟨h + 2, 0, none⟩)) :
    (results Tryd.f19 tmps).run Tryd.prog w = .ok (.tuple #[a, b, c]) w := by
  have c0 := r.r0.cell 0
  have c1 := r.r1.cell 0
  have c2 := r.r2.cell 0
  have h2' : tmps[2]?.getD undef = .pointer (some ⟨h, 0, none⟩) := by simpa using h2
  have h3' : tmps[3]?.getD undef = .pointer (some ⟨h + 1, 0, none⟩) := by simpa using h3
  have h4' : tmps[4]?.getD undef = .pointer (some ⟨h + 2, 0, none⟩) := by simpa using h4
  simp [results, Tryd.f19, go_sem, h2', h3', h4', asAddr, c0, c1, c2]
theorem lread_long (s : ByteArray) (w : World) (hl : 16384 < s.size) :
    Calls Tryd.prog 19 #[.string s] w (ReadPost s w) := by
  have h1 : (16384 : Int) < (s.size : Int) := by omega
  have hp : parseR s = .error (0, 5) := by unfold parseR; rw [if_pos hl]
  have HR := Lib.hid (res3_new w 5)
  have HP := Lib.hid hp
  clear hp hl
  go_enter_defers Tryd.func19, Tryd.ntmps19
  go_wp2
  exact ⟨_, res3_out HR.out _ rfl rfl rfl, .inr ⟨0, 5, HP.out, rfl⟩, ((below_alloc w _).alloc (by simp) _).alloc (by simp; omega) _⟩
theorem rd_new {w w1 w2 : World} {L : List ByteArray} (h1 : w1 = w.alloc (.cells (sts L).toArray 9)) (hl : L.length ≤ 16385) (hs : ∀ s ∈ L, s.size ≤ 16384) (h2 : w2 = w1.alloc (.cells #[.slice (some ⟨w.heap.size, 0, none⟩) L.length L.length, .int .i64 0, .slice none 0 0] 64)) :
    Rd w2 w.heap.size w1.heap.size L 0 [] ∧ Below w.heap.size w w2 := by
  subst h2
  have ho := own_texts w 9 L w.heap.size (Nat.le_refl _) (by unfold maxLen; omega)
  rw [← h1] at ho
  have hb1 : Below w.heap.size w w1 := by rw [h1]; exact below_alloc _ _
  exact ⟨⟨hb1.size, Nat.zero_le _, hl, hs, _, _, none, 0, Holds.new w1 _ _, own_keepK ho (below_alloc _ _), World.ownsRow_nil _ _ _ _⟩, hb1.trans ((below_alloc w1 _).mono hb1.size)⟩
theorem Res3.all {w : World} {h : Nat} {a b c : Value} (r : Res3 w h a b c) (x y z : Value) : Res3 (((w.setCell ⟨h, 0, none⟩ x).setCell ⟨h + 1, 0, none⟩ y).setCell ⟨h + 2, 0, none⟩ z) h x y z :=
  ⟨((r.r0.put 0 x).far (by omega) y).far (by omega) z, ((r.r1.far (by omega) x).put 0 y).far (by omega) z, ((r.r2.far (by omega) x).far (by omega) y).put 0 z⟩
theorem Tl.far {w : World} {B q : Nat} {T : TB} (h : Tl w B q T) {b i : Nat} (hb : b < B) (v : Value) : Tl (w.setCell ⟨b, i, none⟩ v) B q T := by
  obtain ⟨hB, A, c, hH, hO⟩ := h
  have hc := Chg.set (S := fun k => k = b) w b i v rfl
  exact ⟨hB, A, c, hH.chg hc (by omega), own_chg hO hc (fun x hx e => by have := (hO.lt x hx).1; omega)⟩
theorem Tl.mono {w : World} {B B' q : Nat} {T : TB} (h : Tl w B q T) (hb : B' ≤ B) : Tl w B' q T := by
  obtain ⟨hB, A, c, hH, hO⟩ := h
  exact ⟨Nat.le_trans hb hB, A, c, hH, own_monoK hO hb⟩
theorem TabPost.ok {w0 : World} {L : List ByteArray} {e : Ending} {w' : World} (h : TabPost w0 L e w') {T : TB} (hr : walkR 0 TB.zero L 0 = .ok T) : ∃ q, e = .returned (.pointer (some ⟨q, 0, none⟩)) ∧ Tl w' w0.heap.size q T ∧ Below w0.heap.size w0 w' := by
  rcases h with ⟨T', q, h1, h2⟩ | ⟨n, c, h1, _⟩
  · rw [hr] at h1
    cases h1
    exact ⟨q, h2⟩
  · rw [hr] at h1
    cases h1
theorem TabPost.err {w0 : World} {L : List ByteArray} {e : Ending} {w' : World} (h : TabPost w0 L e w') {n : Nat} {c : Int} (hr : walkR 0 TB.zero L 0 = .error (n, c)) : e = .panicked (faultV (n : Int) c) ∧ Below w0.heap.size w0 w' := by
  rcases h with ⟨T', q, h1, _⟩ | ⟨n', c', h1, h2⟩
  · rw [hr] at h1
    cases h1
  · rw [hr] at h1
    cases h1
    exact h2
theorem lread_any (s : ByteArray) (w : World) (hM : Mt w) : Calls Tryd.prog 19 #[.string s] w (ReadPost s w) := by
  by_cases hl : 16384 < s.size
  · exact lread_long s w hl
  have h1 : ¬ (16384 : Int) < (s.size : Int) := by omega
  have h2 : decide ((16384 : Int) < (s.size : Int)) = false := decide_eq_false h1
  have hmf : ∀ (fn : Fn) (first cap : Array Value) (w : World), (Instr.makeFunc fn first cap).run Tryd.prog w = .ok (.func fn first cap) w := fun _ _ _ _ => rfl
  have hp : parseR s = walkR 0 TB.zero (pcs 10 s) 0 := by unfold parseR; rw [if_neg hl]
  have HP := Lib.hid hp
  have HLn := Lib.hid (show (pcs 10 s).length ≤ 16385 by have := pcs_len 10 s; omega)
  have HSh := Lib.hid (show ∀ x ∈ pcs 10 s, x.size ≤ 16384 from fun x hx => Nat.le_trans (pcs_size 10 s x hx) (by omega))
  obtain ⟨W0, hW0⟩ : ∃ W0, ((w.alloc (.cells #[.pointer none] 26)).alloc (.cells #[.int .i64 0] 3)).alloc (.cells #[.int .i64 0] 27) = W0 := ⟨_, rfl⟩
  have hR := res3_new w 0
  have hB0 : Below w.heap.size w W0 := by rw [← hW0]; exact ((below_alloc w _).alloc (by simp) _).alloc (by simp; omega) _
  have hS0 : W0.heap.size = w.heap.size + 3 := by rw [← hW0]; simp
  rw [hW0] at hR
  have HR := Lib.hid hR
  have HB0 := Lib.hid hB0
  have HS0 := Lib.hid hS0
  have HM := Lib.hid (hM.below hB0)
  have HSP := Lib.hid (split_any s 10 W0 (by omega) HM.out)
  clear hp hR hB0 hS0 hM hl
  have HRR := Lib.hid (fun (w3 : World) (hb : Below W0.heap.size W0 w3) => HR.out.below hb (by rw [HS0.out]; omega))
  have HBB := Lib.hid (fun (w3 : World) (hb : Below W0.heap.size W0 w3) => (HB0.out.trans (hb.mono HB0.out.size) : Below w.heap.size w w3))
  cases hwr : walkR 0 TB.zero (pcs 10 s) 0 with
  | ok T =>
    have HW := Lib.hid hwr
    clear hwr
    go_enter_defers Tryd.func19, Tryd.ntmps19
    go_wp2_with (first
      | (go_at_call 30; refine HSP.out.mono ?_; rintro e w1 ⟨rfl, hw1⟩; have HRD := Lib.hid (rd_new hw1 HLn.out HSh.out rfl); clear hw1)
      | (go_at_call 31; refine (table_any W0 _ w1.heap.size (pcs 10 s) HRD.out.1 HRD.out.2 HM.out).mono ?_; intro e w3 hp; obtain ⟨q3, rfl, htl, hbl⟩ := hp.ok HW.out; have HTL := Lib.hid htl; have HBL := Lib.hid hbl; have hrr := HRR.out w3 hbl; have c0 := hrr.r0.cell 0; have c1 := hrr.r1.cell 0; have c2 := hrr.r2.cell 0; have f0 := hrr.r0.soft 0; have f1 := hrr.r1.soft 0; have f2 := hrr.r2.soft 0; clear htl hbl hp hrr))
    refine leaves_cons (f := 29) (args := #[.pointer (some ⟨w.heap.size, 0, none⟩), .pointer (some ⟨w.heap.size + 1, 0, none⟩), .pointer (some ⟨w.heap.size + 2, 0, none⟩)]) (by simp) (by simp [go_sem]) ?_
    refine (catch_idle _ _ _ _).mono ?_
    rintro e u' w'' ⟨rfl, rfl, rfl⟩
    have hlt : ∀ k, k ≤ 2 → w.heap.size + k < W0.heap.size := fun k hk => by rw [HS0.out]; omega
    exact ⟨_, res3_out ((HRR.out w3 HBL.out).all _ _ _) _ rfl rfl rfl, .inl ⟨T, q3, by rw [HP.out, HW.out], rfl, (((HTL.out.far (hlt 0 (by omega)) _).far (hlt 1 (by omega)) _).far (hlt 2 (by omega)) _).mono HB0.out.size⟩, (((HBB.out w3 HBL.out).setCell (Nat.le_refl _) _).setCell (Nat.le_succ _) _).setCell (by dsimp only; omega) _⟩
  | error p =>
    obtain ⟨n, c⟩ := p
    have HW := Lib.hid hwr
    clear hwr
    go_enter_defers Tryd.func19, Tryd.ntmps19
    go_wp2_with (first
      | (go_at_call 30; refine HSP.out.mono ?_; rintro e w1 ⟨rfl, hw1⟩; have HRD := Lib.hid (rd_new hw1 HLn.out HSh.out rfl); clear hw1)
      | (go_at_call 31; refine (table_any W0 _ w1.heap.size (pcs 10 s) HRD.out.1 HRD.out.2 HM.out).mono ?_; intro e w3 hp; obtain ⟨rfl, hbl⟩ := hp.err HW.out; have HBL := Lib.hid hbl; clear hbl hp))
    refine leaves_cons (f := 29) (args := #[.pointer (some ⟨w.heap.size, 0, none⟩), .pointer (some ⟨w.heap.size + 1, 0, none⟩), .pointer (some ⟨w.heap.size + 2, 0, none⟩)]) (by simp) (by simp [go_sem]) ?_
    refine (catch_fault w.heap.size _ _ _ (n : Int) c w3 (HRR.out w3 HBL.out)).mono ?_
    rintro e u' w'' ⟨rfl, rfl, hr, hb⟩
    exact ⟨_, res3_out hr _ rfl rfl rfl, .inr ⟨n, c, by rw [HP.out, HW.out], rfl⟩, (HBB.out w3 HBL.out).trans hb⟩
end Go.Proofs.YtiglhmdiiajmhaaDoor
