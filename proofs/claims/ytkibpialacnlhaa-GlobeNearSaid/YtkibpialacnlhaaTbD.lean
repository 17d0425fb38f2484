/- Package table: Hops, List. -/
import Derived.Test.YtkibpialacnlhaaTbC
import Derived.Test.YtkibpialacnlhaaMarks
import Derived.Test.YtkibpialacnlhaaRangeBox
namespace Go.Proofs.Ytkibpialacnlhaa
open Go.RowKit Go.Shelf
set_option linter.unusedVariables false
set_option linter.unusedSimpArgs false
attribute [local go_sem] Oper.semAt_some

theorem wpListIn_append_known {F : Fence} {n : Nat} {P : Program} {w : World} {ops : Array Oper} {rest : List Oper} {o : Oper} {a : Act} {Q : Exit → Act → World → Prop}
    (hg : o.guard = none) (s x : Operand) (t : TypeId) (hop : o.op = Op.call { callee := Callee.builtin Builtin.append, args := #[s, x], argTypes := #[t, t] })
    (v u : Value) (hs : a.eval s = v) (hx : a.eval x = u) {v' : Value} {w' : World} (hr : (Builtin.append_ #[t, t] o.type #[v, u]).run P w = .ok v' w') (h : wpListIn F n P ops Q rest (a.put o.dst v') w') :
    wpListIn F n P ops Q (o :: rest) a w := by
  refine wpListIn_plain hg fun K hK' => ?_
  unfold Oper.wpIn
  refine ⟨?_, ?_⟩
  · simp [Oper.about, hop, resolve, Target.leads, Sem.run_pure]
  · rw [Oper.semAt_plain F _ _ (by rw [hop]; intro c hc'; cases hc')]
    simp [execOp, hop, resolve, invoke, builtin, hs, hx, hr, Result.andThen]
    exact hK' _ _ h

/-- The most of all. -/
def mostL (L : List Ent) : Int := L.foldl (fun m e => if m < e.2.2 then e.2.2 else m) 0
theorem mostL_snoc (L : List Ent) (e : Ent) : mostL (L ++ [e]) = if mostL L < e.2.2 then e.2.2 else mostL L := by
  unfold mostL
  rw [List.foldl_append]
  rfl

theorem run_max2 (a b : Int) (w : World) : (Builtin.max_ #[3, 3] 3 #[.int .i64 a, .int .i64 b]).run Try.prog w = .ok (.int .i64 (if a < b then b else a)) w := by
  simp [Builtin.max_, Builtin.max2, go_sem]
/-- Between two entries that Hops looks at. -/
structure HRun (w : World) (pre : List Ent) (W : World) : Prop where
  most : Holds W w.heap.size 3 #[.int .i64 (mostL pre)]
  below : Below w.heap.size w W
theorem HRun.turned {w : World} {pre : List Ent} {W W' : World} {row : Option Nat} (h : HRun w pre W) (hg : W.grownBy W' row) (hr : NoCells W row) (hb : ∀ k, row = some k → w.heap.size ≤ k) : HRun w pre W' :=
  ⟨h.most.turned hg hr, h.below.grown hg h.below.size hb⟩
theorem hops_leaves {n : Nat} {w : World} {W : World} {tmps : Array Value} {v : Int} {D : Nat} (hb : Below w.heap.size w W)
    (hD : w.heap.size ≤ D) (hDk : W.heap[D]? = some (.deferred (some []))) (t2 : tmps.getD 2 undef = .int .i64 v) :
    LeavesInM Fence.wide n Try.prog Try.f26 tmps (fun e w' => e = .returned (.int .i64 v) ∧ Below w.heap.size w w') [mark D] .returning W := by
  refine leaves_marks (I := fun W => Below w.heap.size w W) (lo := w.heap.size) (hi := D + 1) (fun W D' hD' hI hd => ?_) (fun W hI => ?_) [D] W ⟨by simp, fun E hE => by
    simp only [List.mem_cons, List.not_mem_nil, or_false] at hE
    subst hE
    exact ⟨hD, Nat.lt_succ_self _, hDk⟩⟩ hb
  · have hg := grownBy_putObj' W D' (.deferred none)
    exact hI.grown hg hI.size (fun k e => by cases e; exact hD')
  · refine ⟨.int .i64 v, ?_, rfl, hI⟩
    have t2' : tmps[2]?.getD undef = .int .i64 v := by simpa using t2
    simp [results, Try.f26, go_sem, t2']
set_option maxRecDepth 100000 in
set_option maxHeartbeats 4000000 in
theorem hops_any (w : World) (q : Option Addr) (L : List Ent) (h : Src w q L) :
    Calls Try.prog 26 #[.pointer q] w fun e w' => e = .returned (.int .i64 (mostL L)) ∧ Below w.heap.size w w' := by
  refine (callsIn_wide (n := 4)).1 ?_
  refine callsIn_of_wp_marks Try.func26 rfl trivial ?_ rfl
  simp only [Try.ntmps26, List.size_toArray, List.length_cons, List.length_nil, Nat.reduceAdd, Nat.reduceSub, Array.replicate_succ, Array.replicate_zero, List.push_toArray, List.append_toArray, List.nil_append, List.cons_append]
  have HS := Lib.hid h
  clear h
  gi_wp2_with (refine ⟨trivial, ?_⟩; gi_at_call 37; refine (callsIn_wide.2 (all_any _ q)).mono ?_; rintro e w' ⟨rfl, rfl⟩)
  have sR : ((w.alloc (.cells #[.int .i64 0] 3)).alloc (.cells #[.pointer q] 24)).heap.size = w.heap.size + 2 := by simp
  have b0 : HRun w [] ((w.alloc (.cells #[.int .i64 0] 3)).alloc (.cells #[.pointer q] 24)) := ⟨(Holds.new w _ _).alloc _, (below_alloc w _).alloc (by simp) _⟩
  have cR := (Holds.new (w.alloc (.cells #[.int .i64 0] 3)) 24 #[.pointer q]).cell 0
  rw [size_alloc] at cR
  have hS := HS.out.below b0.below
  obtain ⟨WR, hWR⟩ : ∃ WR, ((w.alloc (.cells #[.int .i64 0] 3)).alloc (.cells #[.pointer q] 24)) = WR := ⟨_, rfl⟩
  rw [hWR] at b0 cR sR hS
  simp only [hWR]
  clear hWR
  refine range_boxed rfl (by omega) (gf := 48) (lb := #[.pointer (some ⟨w.heap.size + 1, 0, none⟩)]) rfl trivial (enters_of Try.func48 (by kernel_rfl) rfl)
    (all1_stops _ (by omega) (w.heap.size + 1) (w.heap.size + 2) q L WR hS cR (by omega)) kept_t (fun W l o o' hl => kept_b (by omega) W l o o' hl) (fun _ _ h => kept_below h) (Below.refl _ _) (fun _ => rfl)
    (fun (pre : List Ent) W => HRun w pre W)
    (fun c pre W => False)
    (fun s W W' row hs hg hr => hs.turned hg (fun k e => (hr k e).2) (fun k e => by have := (hr k e).1; omega))
    (fun c s W W' row hs hg hr => hs)
    b0 50 (fun x => #[.int .i64 x.1, .int .i64 x.2.1, .int .i64 x.2.2]) ?a₁ ?assign ?body ?done ?stop
  case assign =>
    intro l y b W K hb hK
    simp only [entA]
    have HB := Lib.hid hb
    clear hb
    gi_wp2
    simp only [HB.out]
    exact hK
  case body =>
    rintro l pre y g W hl ⟨rc, hrc⟩ hrn he hlen
    obtain ⟨a, b, c⟩ := y
    dsimp only at he ⊢
    have c0 := hrn.most.cell 0
    have f0 := hrn.most.soft 0
    have c2 := he.cell 2
    have hmx := fun W => run_max2 (mostL pre) c W
    have hsn := mostL_snoc pre (a, b, c)
    dsimp only at hsn
    rw [← hsn] at hmx
    have hch := Chg.set (S := fun k => k = w.heap.size) W w.heap.size 0 (.int .i64 (mostL (pre ++ [(a, b, c)]))) rfl
    have HR := Lib.hid (show HRun w (pre ++ [(a, b, c)]) (W.setCell ⟨w.heap.size, 0, none⟩ (.int .i64 (mostL (pre ++ [(a, b, c)])))) from
      ⟨hrn.most.put 0 _, hrn.below.setCell (p := ⟨w.heap.size, 0, none⟩) (Nat.le_refl _) _⟩)
    have HK := Lib.hid (kept_chg (n := w.heap.size + 2) hch (fun k hk => by omega))
    have HO := Lib.hid (show KeepsFrom WR.heap.size W _ from (others_of_chg hch (fun k e => by subst e; exact ⟨_, _, _, hrn.most⟩)).from _)
    obtain ⟨M, hM⟩ : ∃ M, mostL (pre ++ [(a, b, c)]) = M := ⟨_, rfl⟩
    rw [hM] at HR HK HO
    simp only [hM] at hmx
    clear hrn hch hsn hM he
    gi_wp2
    exact ⟨HO.out, HK.out, HR.out⟩
  case done =>
    rintro D ys W hD rfl hrn hDk
    have c2 := hrn.most.cell 0
    have hB := hrn.below
    clear hrn
    gi_wp2
    exact hops_leaves hB (by omega) hDk rfl
  case stop =>
    rintro D c pre W hD hpre hf hDk
    exact hf.elim

theorem entry_info : (Try.prog.info? 50).map (fun i => (i.zero, i.size, i.bytes)) = some (some (.agg #[.int .i64 0, .int .i64 0, .int .i64 0]), 3, 24) := by kernel_rfl
theorem run_append_fits {P : Program} (w : World) (B : Nat) (t ty e : TypeId) (i : TypeInfo) (k : Nat) (ht : P.underlying t = some (.slice e)) (hi : P.info? e = some i) (hsize : i.size = k) (g n cap : Nat) (xs : List Value)
    (hown : w.ownsRow B e k (.slice (some ⟨g, 0, none⟩) n cap) n xs) (ad : Addr) (m c : Nat) (news : List Value) (hl : news.length = m * k) (hnews : ∀ j u, news[j]? = some u → w.cell? (ad.add j) = some u) (h1 : ∀ u ∈ news, u.oneCell' = true)
    (hroom : n + m ≤ cap) :
    ∃ w', (Builtin.append_ #[t, t] ty #[.slice (some ⟨g, 0, none⟩) n cap, .slice (some ad) m c]).run P w = .ok (.slice (some ⟨g, 0, none⟩) (n + m) cap) w' ∧ w'.ownsRow B e k (.slice (some ⟨g, 0, none⟩) (n + m) cap) (n + m) (xs ++ news) ∧ w.grownBy w' (some g) := by
  rcases own_open hown with ⟨e1, _, _⟩ | ⟨g', cap', cur, e1, hB, hH, hnc, hcm, hcl, hct⟩
  · cases e1
  · simp only [Value.slice.injEq, Option.some.injEq, Addr.mk.injEq, true_and, and_true] at e1
    obtain ⟨rfl, rfl⟩ := e1
    have hH' : w.heap[g]? = _ := hH
    subst hsize
    have hm : n * i.size + news.length ≤ cur.length := by rw [hl, hcl, ← Nat.add_mul]; exact Nat.mul_le_mul_right _ hroom
    have hr := run_append_room (P := P) w t ty e i ht hi g n cap cur.toArray hH' ad m c news hl hnews h1 hroom (by simpa using hm)
    refine ⟨_, hr, ?_, grown_row w g _⟩
    refine own_mk (hH.row _) hB hroom hcm (by simp; omega) ?_
    have e : (n + m) * i.size = (cur.take (n * i.size) ++ news).length := by rw [List.length_append, List.length_take, hl, Nat.min_eq_left (by omega), Nat.add_mul]
    simp only [hct] at *
    rw [e, List.take_left]
/-- A call answers a row of entries of its own. -/
def GaveEnts (w : World) (L : List Ent) (e : Ending) (w' : World) : Prop :=
  ∃ c, e = .returned (.slice (some ⟨w.heap.size, 0, none⟩) L.length c) ∧ w'.ownsRow w.heap.size 50 3 (.slice (some ⟨w.heap.size, 0, none⟩) L.length c) L.length (trs L) ∧ Below w.heap.size w w'
/-- Between two entries that List looks at. -/
structure LRun (w : World) (n : Nat) (pre : List Ent) (W : World) : Prop where
  fits : pre.length ≤ n
  var : Holds W (w.heap.size + 1) 22 #[.slice (some ⟨w.heap.size, 0, none⟩) pre.length n]
  row : W.ownsRow w.heap.size 50 3 (.slice (some ⟨w.heap.size, 0, none⟩) pre.length n) pre.length (trs pre)
  below : Below w.heap.size w W
theorem own_turned {w w' : World} {B : Nat} {e : TypeId} {v : Value} {m k : Nat} {xs : List Value} {row : Option Nat} (h : w.ownsRow B e k v m xs) (hg : w.grownBy w' row) (hr : NoCells w row) : w'.ownsRow B e k v m xs := by
  refine own_chg h (Chg.of_grown (S := fun k => row = some k) hg (fun k hk => hk)) (fun q hq e => ?_)
  obtain ⟨o, ho, hc⟩ := hr _ e
  rcases own_open h with ⟨e', _⟩ | ⟨g', cap, cur, e', _, hH, _⟩
  · rw [e'] at hq
    cases hq
  · rw [e'] at hq
    simp [Value.ownBlock] at hq
    subst hq
    rw [show w.heap[g']? = _ from hH] at ho
    cases ho
    cases hc
theorem LRun.turned {w : World} {n : Nat} {pre : List Ent} {W W' : World} {row : Option Nat} (h : LRun w n pre W) (hg : W.grownBy W' row) (hr : NoCells W row) (hb : ∀ k, row = some k → w.heap.size ≤ k) : LRun w n pre W' :=
  ⟨h.fits, h.var.turned hg hr, own_turned h.row hg hr, h.below.grown hg h.below.size hb⟩
theorem list_leaves {n : Nat} {w : World} {W : World} {tmps : Array Value} {v : Value} {L : List Ent} {c D : Nat} (hv : v = .slice (some ⟨w.heap.size, 0, none⟩) L.length c) (ho : W.ownsRow w.heap.size 50 3 v L.length (trs L)) (hb : Below w.heap.size w W)
    (hD : w.heap.size ≤ D) (hDk : W.heap[D]? = some (.deferred (some []))) (t2 : tmps.getD 2 undef = v) :
    LeavesInM Fence.wide n Try.prog Try.f25 tmps (GaveEnts w L) [mark D] .returning W := by
  refine leaves_marks (I := fun W => W.ownsRow w.heap.size 50 3 v L.length (trs L) ∧ Below w.heap.size w W) (lo := w.heap.size) (hi := D + 1) (fun W D' hD' hI hd => ?_) (fun W hI => ?_) [D] W ⟨by simp, fun E hE => by
    simp only [List.mem_cons, List.not_mem_nil, or_false] at hE
    subst hE
    exact ⟨hD, Nat.lt_succ_self _, hDk⟩⟩ ⟨ho, hb⟩
  · have hg := grownBy_putObj' W D' (.deferred none)
    exact ⟨own_turned hI.1 hg (fun k e => by cases e; exact ⟨_, hd, rfl⟩), hI.2.grown hg hI.2.size (fun k e => by cases e; exact hD')⟩
  · refine ⟨v, ?_, c, by rw [hv], by rw [← hv]; exact hI.1, hI.2⟩
    have t2' : tmps[2]?.getD undef = v := by simpa using t2
    simp [results, Try.f25, go_sem, t2']
theorem make_ents (n : Nat) (hn : n ≤ 8) (w : World) : ∃ cur : Array Value, cur.size = n * 3 ∧ (Instr.makeSlice 22 (.int .i64 0) (.int .i64 (n : Int))).run Try.prog w = .ok (.slice (some ⟨w.heap.size, 0, none⟩) 0 n) (w.alloc (.cells cur 50)) := by
  obtain ⟨i, hi, hzz⟩ := Option.map_eq_some_iff.1 entry_info
  simp only [Prod.mk.injEq] at hzz
  obtain ⟨hz, hs, hb⟩ := hzz
  have hr := run_make (P := Try.prog) w 22 50 i _ Try.underlying22 hi hz .i64 .i64 0 n (Int.le_refl _) (by omega) (by rw [hb]; omega) (by omega)
  simp only [Int.toNat_natCast, hs, Int.toNat_zero] at hr
  exact ⟨_, size_madeCells _ _, hr⟩
theorem src_len (w : World) (q : Option Addr) (L : List Ent) (h : Src w q L) : Calls Try.prog 22 #[.pointer q] w fun e w' => e = .returned (.int .i64 (L.length : Int)) ∧ w' = w := by
  rcases h with ⟨rfl, rfl⟩ | ⟨g, o, t, pre, post, rfl, h⟩
  · exact len_nil w
  · exact len_any w g o t pre post L h
set_option maxRecDepth 100000 in
set_option maxHeartbeats 4000000 in
theorem list_any (w : World) (q : Option Addr) (L : List Ent) (h : Src w q L) : Calls Try.prog 25 #[.pointer q] w (GaveEnts w L) := by
  refine (callsIn_wide (n := 4)).1 ?_
  refine callsIn_of_wp_marks Try.func25 rfl trivial ?_ rfl
  simp only [Try.ntmps25, List.size_toArray, List.length_cons, List.length_nil, Nat.reduceAdd, Nat.reduceSub, Array.replicate_succ, Array.replicate_zero, List.push_toArray, List.append_toArray, List.nil_append, List.cons_append]
  have hlen := src_len w q L h
  have hle := h.le
  obtain ⟨cur, hcur, hmk⟩ := make_ents L.length hle w
  have HS := Lib.hid h
  have HCu := Lib.hid hcur
  obtain ⟨n, hn⟩ : ∃ n, L.length = n := ⟨_, rfl⟩
  have HN := Lib.hid hn
  rw [hn] at hlen hle hmk HCu
  clear h hcur hn
  gi_wp2_with (first
    | (refine ⟨trivial, ?_⟩; gi_at_call 22; refine (callsIn_wide.2 hlen).mono ?_; rintro e wx ⟨rfl, hwx⟩; subst wx)
    | (refine ⟨trivial, ?_⟩; gi_at_call 37; refine (callsIn_wide.2 (all_any _ q)).mono ?_; rintro e w2 ⟨rfl, rfl⟩))
  have b0 : LRun w n [] (((w.alloc (.cells cur 50)).alloc (.cells #[.slice (some ⟨w.heap.size, 0, none⟩) 0 n] 22)).alloc (.cells #[.pointer q] 24)) := by
    have hb1 : Below w.heap.size w ((w.alloc (.cells cur 50)).alloc (.cells #[.slice (some ⟨w.heap.size, 0, none⟩) 0 n] 22)) := (below_alloc w _).alloc (by simp) _
    refine ⟨Nat.zero_le _, ?_, ?_, hb1.alloc (by simp; omega) _⟩
    · have := (Holds.new (w.alloc (.cells cur 50)) 22 #[.slice (some ⟨w.heap.size, 0, none⟩) 0 n]).alloc (.cells #[.pointer q] 24)
      rwa [size_alloc] at this
    · have := World.ownsRow_made (base := w.heap.size) (e := 50) (size := 3) w cur n (Nat.le_refl _) (by unfold maxLen; omega) HCu.out
      exact own_keep' this ((below_alloc _ _).trans ((below_alloc _ _).mono (by simp)))
  have sR : (((w.alloc (.cells cur 50)).alloc (.cells #[.slice (some ⟨w.heap.size, 0, none⟩) 0 n] 22)).alloc (.cells #[.pointer q] 24)).heap.size = w.heap.size + 3 := by simp
  have cR := (Holds.new ((w.alloc (.cells cur 50)).alloc (.cells #[.slice (some ⟨w.heap.size, 0, none⟩) 0 n] 22)) 24 #[.pointer q]).cell 0
  rw [size_alloc, size_alloc] at cR
  have hS := HS.out.below b0.below
  obtain ⟨WR, hWR⟩ : ∃ WR, (((w.alloc (.cells cur 50)).alloc (.cells #[.slice (some ⟨w.heap.size, 0, none⟩) 0 n] 22)).alloc (.cells #[.pointer q] 24)) = WR := ⟨_, rfl⟩
  rw [hWR] at b0 cR sR hS
  simp only [hWR]
  clear hWR hmk HCu hlen
  obtain ⟨i0, hi, H0⟩ : ∃ i, Try.prog.info? 50 = some i ∧ i.size = 3 := by
    obtain ⟨i, hi, hzz⟩ := Option.map_eq_some_iff.1 entry_info
    simp only [Prod.mk.injEq] at hzz
    exact ⟨i, hi, hzz.2.1⟩
  have HI := Lib.hid hi
  have HI0 := Lib.hid H0
  clear hi H0
  refine range_boxed rfl (by omega) (gf := 48) (lb := #[.pointer (some ⟨w.heap.size + 1 + 1, 0, none⟩)]) rfl trivial (enters_of Try.func48 (by kernel_rfl) rfl)
    (all1_stops _ (by omega) (w.heap.size + 1 + 1) (w.heap.size + 3) q L WR hS cR (by omega)) kept_t (fun W l o o' hl => kept_b (by omega) W l o o' hl) (fun _ _ h => kept_below h) (Below.refl _ _) (fun _ => rfl)
    (fun (pre : List Ent) W => LRun w n pre W)
    (fun c pre W => False)
    (fun s W W' row hs hg hr => hs.turned hg (fun k e => (hr k e).2) (fun k e => by have := (hr k e).1; omega))
    (fun c s W W' row hs hg hr => hs)
    b0 50 (fun x => #[.int .i64 x.1, .int .i64 x.2.1, .int .i64 x.2.2]) ?a₁ ?assign ?body ?done ?stop
  case assign =>
    intro l y b W K hb hK
    simp only [entA]
    have HB := Lib.hid hb
    clear hb
    gi_wp2
    simp only [HB.out]
    exact hK
  case body =>
    rintro l pre y g W hl ⟨rc, hrc⟩ hrn he hlen
    obtain ⟨a, b, c⟩ := y
    dsimp only at he ⊢
    rw [HN.out] at hlen
    have q0 := he.cell 0
    have q1 := he.cell 1
    have q2 := he.cell 2
    have v0 := hrn.var.cell 0
    have hb1 := below_alloc W (.cells #[.int .i64 a, .int .i64 b, .int .i64 c] 50)
    have hown1 := own_keep' hrn.row hb1
    have hv1 := hrn.var.below hb1 hrn.var.lt
    obtain ⟨w3, hrun, hown3, hg3⟩ := run_append_fits (P := Try.prog) _ w.heap.size 22 22 50 i0 3 Try.underlying22 HI.out HI0.out w.heap.size pre.length n (trs pre) hown1 ⟨W.heap.size, 0, none⟩ 1 1 [.int .i64 a, .int .i64 b, .int .i64 c] rfl (by
      intro j u hj
      rw [Go.WideShapes.add_plain, Nat.zero_add, (Holds.new W 50 #[.int .i64 a, .int .i64 b, .int .i64 c]).cell]
      simpa using hj) (by simp [Value.oneCell']) (by omega)
    have hv3 := hv1.grown hg3 (by simp)
    have f3 := hv3.soft 0
    have v3 := hv3.cell 0
    have hp : (pre ++ [(a, b, c)]).length = pre.length + 1 := by simp
    have hch : Chg (fun k => k = w.heap.size ∨ k = w.heap.size + 1) W (w3.setCell ⟨w.heap.size + 1, 0, none⟩ (.slice (some ⟨w.heap.size, 0, none⟩) (pre.length + 1) n)) :=
      (Chg.of_below (fun k => k = w.heap.size ∨ k = w.heap.size + 1) hb1).trans ((Chg.of_grown (S := fun k => k = w.heap.size ∨ k = w.heap.size + 1) hg3 (fun k e => by cases e; exact .inl rfl)).trans (Chg.set (S := fun k => k = w.heap.size ∨ k = w.heap.size + 1) w3 (w.heap.size + 1) 0 _ (.inr rfl)) (fun _ _ h => h)) (fun _ _ h => h)
    have HR := Lib.hid (show LRun w n (pre ++ [(a, b, c)]) (w3.setCell ⟨w.heap.size + 1, 0, none⟩ (.slice (some ⟨w.heap.size, 0, none⟩) (pre.length + 1) n)) from by
      refine ⟨by omega, ?_, ?_, Below.chg hrn.below hch hrn.below.size (fun k hk => by omega)⟩
      · rw [hp]
        exact hv3.put 0 _
      · rw [hp, trs_append]
        exact hown3.kept (row := some (w.heap.size + 1)) (grown_set _ _ _ _) (.inr (by simp [Value.ownBlock])))
    have HK := Lib.hid (kept_chg (n := w.heap.size + 3) hch (fun k hk => by omega))
    have HO := Lib.hid (show KeepsFrom WR.heap.size W _ from (others_of_chg hch (fun k e => by
      rcases e with rfl | rfl
      · rcases own_open hrn.row with ⟨e1, _, _⟩ | ⟨g', cap', cur', e1, _, hH, _⟩
        · cases e1
        · simp only [Value.slice.injEq, Option.some.injEq, Addr.mk.injEq, true_and, and_true] at e1
          obtain ⟨rfl, rfl⟩ := e1
          exact ⟨_, _, _, hH⟩
      · exact ⟨_, _, _, hrn.var⟩)).from _)
    obtain ⟨m, hm⟩ : ∃ m, pre.length = m := ⟨_, rfl⟩
    rw [hm] at v0 hrun HR HK HO v3
    have HRun := Lib.hid hrun
    clear hrn hch hp hm hown1 hown3 hg3 hv1 hv3 hb1 hrun he hlen
    gi_wp2_with (refine wpListIn_append_known rfl (.tmp 11) (.tmp 13) 22 rfl (.slice (some ⟨w.heap.size, 0, none⟩) m n) (.slice (some ⟨W.heap.size, 0, none⟩) 1 1) rfl rfl HRun.out ?_)
    exact ⟨HO.out, HK.out, HR.out⟩
  case done =>
    rintro D ys W hD rfl hrn hDk
    have c2 := hrn.var.cell 0
    have hB := hrn.below
    have hro := hrn.row
    rw [HN.out] at c2
    have HRo := Lib.hid hro
    clear hrn hro
    gi_wp2
    exact list_leaves (v := .slice (some ⟨w.heap.size, 0, none⟩) n n) (c := n) (by rw [HN.out]) (by have := HRo.out; rw [HN.out] at this ⊢; exact this) hB (by omega) hDk rfl
  case stop =>
    rintro D c pre W hD hpre hf hDk
    exact hf.elim
end Go.Proofs.Ytkibpialacnlhaa