/- Texts of this seat, one behind the other. -/
import Derived.Test.YtgmeakcfiaopcaaGreatBunT
import Derived.RangeFuncNested
import Derived.Test.YtgmeakcfiaopcaaGreatBunA
import Derived.BigQuiet
import Derived.Lib.SlFresh
/- Ranges over functions whose element is boxed as each round begins (a struct that is a round's variable). Nothing here speaks of one program. -/
namespace Go.Proofs.YtgmeakcfiaopcaaGreat
open Go.RowKit
set_option linter.unusedVariables false
section
variable {F : Fence} {n : Nat} {P : Program} {w : World}
theorem range_boxed {α : Type} {g : Operand} {ps : Array Tmp} {assign body : Code} {Q : Exit → Act → World → Prop} {a : Act}
    (hro : F.round = none) (h1 : 1 ≤ n) {gf : Nat} {lb : Array Value} (hg : a.eval g = .func (.func gf) #[] lb) (hFg : F.fn gf) (eg : ∀ args w, (callFunc gf args).run P w = .ok (.enter gf args) w)
    {encs : α → Array Value} {Kp : World → World → Prop} {S Sp : List α → Prop} {N : Nat} {w0 : World} (hseq : SeqStopsK F (n - 1) P gf lb encs Kp S Sp N w0)
    (hKt : ∀ {A B C : World}, Kp A B → Kp B C → Kp A C) (hKb : ∀ (W : World) (l : Nat) (o o' : Obj), w.heap.size ≤ l → W.heap[l]? = some o → o.isCells = false → o.isWalk = false → Kp W (W.putObj l o')) (hKn : ∀ W W', Below W.heap.size W W' → Kp W W') (hb0 : Below w0.heap.size w0 w) (hps : ∀ x, (encs x).size = ps.size)
    (I : List α → World → Prop) (Ix : Code → List α → World → Prop) (hI : OwnFrom w.heap.size I) (hIx : ∀ c, OwnFrom w.heap.size (Ix c)) (h0 : I [] w) (bt : TypeId) (bcs : α → Array Value) (a₁ : α → Nat → Act)
    (hassign : ∀ (l : Nat) (x : α) (b : Nat) (W : World) (K : Act → World → Prop), W.heap.size = b → K (a₁ x b) (W.alloc (.cells (bcs x) bt)) →
      assign.wpIn (F.inRound l) (n - 1 - 1) P (Exit.then K (fun _ _ _ => False)) { tmps := (ps.zip (encs x)).foldl (fun t (p, v) => t.setIfInBounds p v) a.tmps, defers := [] } W)
    (hbody : ∀ (l : Nat) (pre : List α) (x : α) (b : Nat) (W : World), w.heap.size ≤ l → (∃ r, W.heap[l]? = some (.loop r)) → I pre W → Holds W b bt (bcs x) → pre.length < N → body.wpIn (F.inRound l) (n - 1 - 1) P (ownPostG w.heap.size Kp I Ix (pre ++ [x]) W) (a₁ x b) W)
    (hdone : ∀ (D : Nat) (xs : List α) (W : World), w.heap.size ≤ D → S xs → I xs W → W.heap[D]? = some (.deferred (some [])) → Q .normal { a with defers := { target := .collected D, args := #[] } :: a.defers } W)
    (hstop : ∀ (D : Nat) (c : Code) (pre : List α) (W : World), w.heap.size ≤ D → Sp pre → Ix c pre W → W.heap[D]? = some (.deferred (some [])) → c.wpIn F n P Q { a with defers := { target := .collected D, args := #[] } :: a.defers } W) :
    (Code.rangeFunc g ps assign body).wpIn F n P Q a w :=
  wpIn_rangeFunc_ownH hro h1 hg hFg eg hseq (fun h k => hKt h k) hKb hb0 hps I Ix hI hIx h0 (fun x a' W => ∃ b, a' = a₁ x b ∧ Holds W b bt (bcs x))
    (fun x a' s W W' row hs hg hr => by
      obtain ⟨b, e, h⟩ := hs
      exact ⟨b, e, h.turned hg (fun r e => (hr r e).2)⟩)
    (fun l pre x W K hi hK => hassign l x _ W K rfl (hK _ _ ((others_of_below (below_alloc W _)).from _) (hKn _ _ (below_alloc W _)) (hI.alloc _ hi) ⟨_, rfl, Holds.new W _ _⟩))
    (fun l pre x a' W hl hr hi e hlen => by
      obtain ⟨b, rfl, h⟩ := e
      exact hbody l pre x b W hl hr hi h hlen) hdone hstop
end
end Go.Proofs.YtgmeakcfiaopcaaGreat

/- Package table: Hops, List. -/
namespace Go.Proofs.YtgmeakcfiaopcaaGreat
open Go.RowKit Go.Shelf
set_option linter.unusedVariables false
set_option linter.unusedSimpArgs false
attribute [local go_sem] Oper.semAt_some

theorem wpListIn_append_known {F : Fence} {n : Nat} {P : Program} {w : World} {ops : Array Oper} {rest : List Oper} {o : Oper} {a : Act} {Q : Exit → Act → World → Prop}
    (hg : o.guard = none) (s x : Operand) (t : TypeId) (hop : o.op = Op.call { callee := Callee.builtin Builtin.append, args := #[s, x], argTypes := #[t, t] })
    (v u : Value) (hs : a.eval s = v) (hx : a.eval x = u) {v' : Value} {w' : World} (hr : (Builtin.append_ #[t, t] o.type #[v, u]).run P w = .ok v' w') (h : wpListIn F n P ops Q rest (a.put o.dst v') w') :
    wpListIn F n P ops Q (o :: rest) a w := by
  refine wpListIn_plain hg fun K hK' => ?_
  unfold Oper.wpIn
  refine ⟨?_, ?_⟩
  · simp [Oper.about, hop, resolve, Target.leads, Sem.run_pure]
  · rw [Oper.semAt_plain F _ _ (by rw [hop]; intro c hc'; cases hc')]
    simp [execOp, hop, resolve, invoke, builtin, hs, hx, hr, Result.andThen]
    exact hK' _ _ h

/-- The most of all. -/
def mostL (L : List Ent) : Int := L.foldl (fun m e => if m < e.2.2 then e.2.2 else m) 0
theorem mostL_snoc (L : List Ent) (e : Ent) : mostL (L ++ [e]) = if mostL L < e.2.2 then e.2.2 else mostL L := by
  unfold mostL
  rw [List.foldl_append]
  rfl

theorem run_max2 (a b : Int) (w : World) : (Builtin.max_ #[3, 3] 3 #[.int .i64 a, .int .i64 b]).run Tryz.prog w = .ok (.int .i64 (if a < b then b else a)) w := by
  simp [Builtin.max_, Builtin.max2, go_sem]
/-- Between two entries that Hops looks at. -/
structure HRun (w : World) (pre : List Ent) (W : World) : Prop where
  most : Holds W w.heap.size 3 #[.int .i64 (mostL pre)]
  below : Below w.heap.size w W
theorem HRun.turned {w : World} {pre : List Ent} {W W' : World} {row : Option Nat} (h : HRun w pre W) (hg : W.grownBy W' row) (hr : NoCells W row) (hb : ∀ k, row = some k → w.heap.size ≤ k) : HRun w pre W' :=
  ⟨h.most.turned hg hr, h.below.grown hg h.below.size hb⟩
theorem hops_leaves {n : Nat} {w : World} {W : World} {tmps : Array Value} {v : Int} {D : Nat} (hb : Below w.heap.size w W)
    (hD : w.heap.size ≤ D) (hDk : W.heap[D]? = some (.deferred (some []))) (t2 : tmps.getD 2 undef = .int .i64 v) :
    LeavesInM Fence.wide n Tryz.prog Tryz.f85 tmps (fun e w' => e = .returned (.int .i64 v) ∧ Below w.heap.size w w') [mark D] .returning W := by
  refine leaves_marks (I := fun W => Below w.heap.size w W) (lo := w.heap.size) (hi := D + 1) (fun W D' hD' hI hd => ?_) (fun W hI => ?_) [D] W ⟨by simp, fun E hE => by
    simp only [List.mem_cons, List.not_mem_nil, or_false] at hE
    subst hE
    exact ⟨hD, Nat.lt_succ_self _, hDk⟩⟩ hb
  · have hg := grownBy_putObj' W D' (.deferred none)
    exact hI.grown hg hI.size (fun k e => by cases e; exact hD')
  · refine ⟨.int .i64 v, ?_, rfl, hI⟩
    have t2' : tmps[2]?.getD undef = .int .i64 v := by simpa using t2
    simp [results, Tryz.f85, go_sem, t2']
set_option maxRecDepth 100000 in
set_option maxHeartbeats 4000000 in
theorem hops_any (w : World) (q : Option Addr) (L : List Ent) (h : Src w q L) :
    Calls Tryz.prog 85 #[.pointer q] w fun e w' => e = .returned (.int .i64 (mostL L)) ∧ Below w.heap.size w w' := by
  refine (callsIn_wide (n := 4)).1 ?_
  refine callsIn_of_wp_marks Tryz.func85 rfl trivial ?_ rfl
  simp only [Tryz.ntmps85, List.size_toArray, List.length_cons, List.length_nil, Nat.reduceAdd, Nat.reduceSub, Array.replicate_succ, Array.replicate_zero, List.push_toArray, List.append_toArray, List.nil_append, List.cons_append]
  have HS := Lib.hid h
  clear h
  gi_wp2_with (refine ⟨trivial, ?_⟩; gi_at_call 92; refine (callsIn_wide.2 (all_any _ q)).mono ?_; rintro e w' ⟨rfl, rfl⟩)
  have sR : ((w.alloc (.cells #[.int .i64 0] 3)).alloc (.cells #[.pointer q] 145)).heap.size = w.heap.size + 2 := by simp
  have b0 : HRun w [] ((w.alloc (.cells #[.int .i64 0] 3)).alloc (.cells #[.pointer q] 145)) := ⟨(Holds.new w _ _).alloc _, (below_alloc w _).alloc (by simp) _⟩
  have cR := (Holds.new (w.alloc (.cells #[.int .i64 0] 3)) 145 #[.pointer q]).cell 0
  rw [size_alloc] at cR
  have hS := HS.out.below b0.below
  obtain ⟨WR, hWR⟩ : ∃ WR, ((w.alloc (.cells #[.int .i64 0] 3)).alloc (.cells #[.pointer q] 145)) = WR := ⟨_, rfl⟩
  rw [hWR] at b0 cR sR hS
  simp only [hWR]
  clear hWR
  refine range_boxed rfl (by omega) (gf := 100) (lb := #[.pointer (some ⟨w.heap.size + 1, 0, none⟩)]) rfl trivial (enters_of Tryz.func100 (by kernel_rfl) rfl)
    (all1_stops _ (by omega) (w.heap.size + 1) (w.heap.size + 2) q L WR hS cR (by omega)) kept_t (fun W l o o' hl => kept_b (by omega) W l o o' hl) (fun _ _ h => kept_below h) (Below.refl _ _) (fun _ => rfl)
    (fun (pre : List Ent) W => HRun w pre W)
    (fun c pre W => False)
    (fun s W W' row hs hg hr => hs.turned hg (fun k e => (hr k e).2) (fun k e => by have := (hr k e).1; omega))
    (fun c s W W' row hs hg hr => hs)
    b0 49 (fun x => #[.int .i64 x.1, .int .i64 x.2.1, .int .i64 x.2.2]) ?a₁ ?assign ?body ?done ?stop
  case assign =>
    intro l y b W K hb hK
    simp only [entA]
    have HB := Lib.hid hb
    clear hb
    gi_wp2
    simp only [HB.out]
    exact hK
  case body =>
    rintro l pre y g W hl ⟨rc, hrc⟩ hrn he hlen
    obtain ⟨a, b, c⟩ := y
    dsimp only at he ⊢
    have c0 := hrn.most.cell 0
    have f0 := hrn.most.soft 0
    have c2 := he.cell 2
    have hmx := fun W => run_max2 (mostL pre) c W
    have hsn := mostL_snoc pre (a, b, c)
    dsimp only at hsn
    rw [← hsn] at hmx
    have hch := Chg.set (S := fun k => k = w.heap.size) W w.heap.size 0 (.int .i64 (mostL (pre ++ [(a, b, c)]))) rfl
    have HR := Lib.hid (show HRun w (pre ++ [(a, b, c)]) (W.setCell ⟨w.heap.size, 0, none⟩ (.int .i64 (mostL (pre ++ [(a, b, c)])))) from
      ⟨hrn.most.put 0 _, hrn.below.setCell (p := ⟨w.heap.size, 0, none⟩) (Nat.le_refl _) _⟩)
    have HK := Lib.hid (kept_chg (n := w.heap.size + 2) hch (fun k hk => by omega))
    have HO := Lib.hid (show KeepsFrom WR.heap.size W _ from (others_of_chg hch (fun k e => by subst e; exact ⟨_, _, _, hrn.most⟩)).from _)
    obtain ⟨M, hM⟩ : ∃ M, mostL (pre ++ [(a, b, c)]) = M := ⟨_, rfl⟩
    rw [hM] at HR HK HO
    simp only [hM] at hmx
    clear hrn hch hsn hM he
    gi_wp2
    exact ⟨HO.out, HK.out, HR.out⟩
  case done =>
    rintro D ys W hD rfl hrn hDk
    have c2 := hrn.most.cell 0
    have hB := hrn.below
    clear hrn
    gi_wp2
    exact hops_leaves hB (by omega) hDk rfl
  case stop =>
    rintro D c pre W hD hpre hf hDk
    exact hf.elim

theorem entry_info : (Tryz.prog.info? 49).map (fun i => (i.zero, i.size, i.bytes)) = some (some (.agg #[.int .i64 0, .int .i64 0, .int .i64 0]), 3, 24) := by kernel_rfl
theorem run_append_fits {P : Program} (w : World) (B : Nat) (t ty e : TypeId) (i : TypeInfo) (k : Nat) (ht : P.underlying t = some (.slice e)) (hi : P.info? e = some i) (hsize : i.size = k) (g n cap : Nat) (xs : List Value)
    (hown : w.ownsRow B e k (.slice (some ⟨g, 0, none⟩) n cap) n xs) (ad : Addr) (m c : Nat) (news : List Value) (hl : news.length = m * k) (hnews : ∀ j u, news[j]? = some u → w.cell? (ad.add j) = some u) (h1 : ∀ u ∈ news, u.oneCell' = true)
    (hroom : n + m ≤ cap) :
    ∃ w', (Builtin.append_ #[t, t] ty #[.slice (some ⟨g, 0, none⟩) n cap, .slice (some ad) m c]).run P w = .ok (.slice (some ⟨g, 0, none⟩) (n + m) cap) w' ∧ w'.ownsRow B e k (.slice (some ⟨g, 0, none⟩) (n + m) cap) (n + m) (xs ++ news) ∧ w.grownBy w' (some g) := by
  rcases own_open hown with ⟨e1, _, _⟩ | ⟨g', cap', cur, e1, hB, hH, hnc, hcm, hcl, hct⟩
  · cases e1
  · simp only [Value.slice.injEq, Option.some.injEq, Addr.mk.injEq, true_and, and_true] at e1
    obtain ⟨rfl, rfl⟩ := e1
    have hH' : w.heap[g]? = _ := hH
    subst hsize
    have hm : n * i.size + news.length ≤ cur.length := by rw [hl, hcl, ← Nat.add_mul]; exact Nat.mul_le_mul_right _ hroom
    have hr := run_append_room (P := P) w t ty e i ht hi g n cap cur.toArray hH' ad m c news hl hnews h1 hroom (by simpa using hm)
    refine ⟨_, hr, ?_, grown_row w g _⟩
    refine own_mk (hH.row _) hB hroom hcm (by simp; omega) ?_
    have e : (n + m) * i.size = (cur.take (n * i.size) ++ news).length := by rw [List.length_append, List.length_take, hl, Nat.min_eq_left (by omega), Nat.add_mul]
    simp only [hct] at *
    rw [e, List.take_left]
/-- A call answers a row of entries of its own. -/
def GaveEnts (w : World) (L : List Ent) (e : Ending) (w' : World) : Prop :=
  ∃ c, e = .returned (.slice (some ⟨w.heap.size, 0, none⟩) L.length c) ∧ w'.ownsRow w.heap.size 49 3 (.slice (some ⟨w.heap.size, 0, none⟩) L.length c) L.length (trs L) ∧ Below w.heap.size w w'
/-- Between two entries that List looks at. -/
structure LRun (w : World) (n : Nat) (pre : List Ent) (W : World) : Prop where
  fits : pre.length ≤ n
  var : Holds W (w.heap.size + 1) 150 #[.slice (some ⟨w.heap.size, 0, none⟩) pre.length n]
  row : W.ownsRow w.heap.size 49 3 (.slice (some ⟨w.heap.size, 0, none⟩) pre.length n) pre.length (trs pre)
  below : Below w.heap.size w W
theorem own_turned {w w' : World} {B : Nat} {e : TypeId} {v : Value} {m k : Nat} {xs : List Value} {row : Option Nat} (h : w.ownsRow B e k v m xs) (hg : w.grownBy w' row) (hr : NoCells w row) : w'.ownsRow B e k v m xs := by
  refine own_chg h (Chg.of_grown (S := fun k => row = some k) hg (fun k hk => hk)) (fun q hq e => ?_)
  obtain ⟨o, ho, hc⟩ := hr _ e
  rcases own_open h with ⟨e', _⟩ | ⟨g', cap, cur, e', _, hH, _⟩
  · rw [e'] at hq
    cases hq
  · rw [e'] at hq
    simp [Value.ownBlock] at hq
    subst hq
    rw [show w.heap[g']? = _ from hH] at ho
    cases ho
    cases hc
theorem LRun.turned {w : World} {n : Nat} {pre : List Ent} {W W' : World} {row : Option Nat} (h : LRun w n pre W) (hg : W.grownBy W' row) (hr : NoCells W row) (hb : ∀ k, row = some k → w.heap.size ≤ k) : LRun w n pre W' :=
  ⟨h.fits, h.var.turned hg hr, own_turned h.row hg hr, h.below.grown hg h.below.size hb⟩
theorem list_leaves {n : Nat} {w : World} {W : World} {tmps : Array Value} {v : Value} {L : List Ent} {c D : Nat} (hv : v = .slice (some ⟨w.heap.size, 0, none⟩) L.length c) (ho : W.ownsRow w.heap.size 49 3 v L.length (trs L)) (hb : Below w.heap.size w W)
    (hD : w.heap.size ≤ D) (hDk : W.heap[D]? = some (.deferred (some []))) (t2 : tmps.getD 2 undef = v) :
    LeavesInM Fence.wide n Tryz.prog Tryz.f84 tmps (GaveEnts w L) [mark D] .returning W := by
  refine leaves_marks (I := fun W => W.ownsRow w.heap.size 49 3 v L.length (trs L) ∧ Below w.heap.size w W) (lo := w.heap.size) (hi := D + 1) (fun W D' hD' hI hd => ?_) (fun W hI => ?_) [D] W ⟨by simp, fun E hE => by
    simp only [List.mem_cons, List.not_mem_nil, or_false] at hE
    subst hE
    exact ⟨hD, Nat.lt_succ_self _, hDk⟩⟩ ⟨ho, hb⟩
  · have hg := grownBy_putObj' W D' (.deferred none)
    exact ⟨own_turned hI.1 hg (fun k e => by cases e; exact ⟨_, hd, rfl⟩), hI.2.grown hg hI.2.size (fun k e => by cases e; exact hD')⟩
  · refine ⟨v, ?_, c, by rw [hv], by rw [← hv]; exact hI.1, hI.2⟩
    have t2' : tmps[2]?.getD undef = v := by simpa using t2
    simp [results, Tryz.f84, go_sem, t2']
theorem make_ents (n : Nat) (hn : n ≤ 8) (w : World) : ∃ cur : Array Value, cur.size = n * 3 ∧ (Instr.makeSlice 150 (.int .i64 0) (.int .i64 (n : Int))).run Tryz.prog w = .ok (.slice (some ⟨w.heap.size, 0, none⟩) 0 n) (w.alloc (.cells cur 49)) := by
  obtain ⟨i, hi, hzz⟩ := Option.map_eq_some_iff.1 entry_info
  simp only [Prod.mk.injEq] at hzz
  obtain ⟨hz, hs, hb⟩ := hzz
  have hr := run_make (P := Tryz.prog) w 150 49 i _ Tryz.underlying150 hi hz .i64 .i64 0 n (Int.le_refl _) (by omega) (by rw [hb]; omega) (by omega)
  simp only [Int.toNat_natCast, hs, Int.toNat_zero] at hr
  exact ⟨_, size_madeCells _ _, hr⟩
theorem src_len (w : World) (q : Option Addr) (L : List Ent) (h : Src w q L) : Calls Tryz.prog 69 #[.pointer q] w fun e w' => e = .returned (.int .i64 (L.length : Int)) ∧ w' = w := by
  rcases h with ⟨rfl, rfl⟩ | ⟨g, o, t, pre, post, rfl, h⟩
  · exact len_nil w
  · exact len_any w g o t pre post L h
set_option maxRecDepth 100000 in
set_option maxHeartbeats 4000000 in
theorem list_any (w : World) (q : Option Addr) (L : List Ent) (h : Src w q L) : Calls Tryz.prog 84 #[.pointer q] w (GaveEnts w L) := by
  refine (callsIn_wide (n := 4)).1 ?_
  refine callsIn_of_wp_marks Tryz.func84 rfl trivial ?_ rfl
  simp only [Tryz.ntmps84, List.size_toArray, List.length_cons, List.length_nil, Nat.reduceAdd, Nat.reduceSub, Array.replicate_succ, Array.replicate_zero, List.push_toArray, List.append_toArray, List.nil_append, List.cons_append]
  have hlen := src_len w q L h
  have hle := h.le
  obtain ⟨cur, hcur, hmk⟩ := make_ents L.length hle w
  have HS := Lib.hid h
  have HCu := Lib.hid hcur
  obtain ⟨n, hn⟩ : ∃ n, L.length = n := ⟨_, rfl⟩
  have HN := Lib.hid hn
  rw [hn] at hlen hle hmk HCu
  clear h hcur hn
  gi_wp2_with (first
    | (refine ⟨trivial, ?_⟩; gi_at_call 69; refine (callsIn_wide.2 hlen).mono ?_; rintro e wx ⟨rfl, hwx⟩; subst wx)
    | (refine ⟨trivial, ?_⟩; gi_at_call 92; refine (callsIn_wide.2 (all_any _ q)).mono ?_; rintro e w2 ⟨rfl, rfl⟩))
  have b0 : LRun w n [] (((w.alloc (.cells cur 49)).alloc (.cells #[.slice (some ⟨w.heap.size, 0, none⟩) 0 n] 150)).alloc (.cells #[.pointer q] 145)) := by
    have hb1 : Below w.heap.size w ((w.alloc (.cells cur 49)).alloc (.cells #[.slice (some ⟨w.heap.size, 0, none⟩) 0 n] 150)) := (below_alloc w _).alloc (by simp) _
    refine ⟨Nat.zero_le _, ?_, ?_, hb1.alloc (by simp; omega) _⟩
    · have := (Holds.new (w.alloc (.cells cur 49)) 150 #[.slice (some ⟨w.heap.size, 0, none⟩) 0 n]).alloc (.cells #[.pointer q] 145)
      rwa [size_alloc] at this
    · have := World.ownsRow_made (base := w.heap.size) (e := 49) (size := 3) w cur n (Nat.le_refl _) (by unfold maxLen; omega) HCu.out
      exact own_keep' this ((below_alloc _ _).trans ((below_alloc _ _).mono (by simp)))
  have sR : (((w.alloc (.cells cur 49)).alloc (.cells #[.slice (some ⟨w.heap.size, 0, none⟩) 0 n] 150)).alloc (.cells #[.pointer q] 145)).heap.size = w.heap.size + 3 := by simp
  have cR := (Holds.new ((w.alloc (.cells cur 49)).alloc (.cells #[.slice (some ⟨w.heap.size, 0, none⟩) 0 n] 150)) 145 #[.pointer q]).cell 0
  rw [size_alloc, size_alloc] at cR
  have hS := HS.out.below b0.below
  obtain ⟨WR, hWR⟩ : ∃ WR, (((w.alloc (.cells cur 49)).alloc (.cells #[.slice (some ⟨w.heap.size, 0, none⟩) 0 n] 150)).alloc (.cells #[.pointer q] 145)) = WR := ⟨_, rfl⟩
  rw [hWR] at b0 cR sR hS
  simp only [hWR]
  clear hWR hmk HCu hlen
  obtain ⟨i0, hi, H0⟩ : ∃ i, Tryz.prog.info? 49 = some i ∧ i.size = 3 := by
    obtain ⟨i, hi, hzz⟩ := Option.map_eq_some_iff.1 entry_info
    simp only [Prod.mk.injEq] at hzz
    exact ⟨i, hi, hzz.2.1⟩
  have HI := Lib.hid hi
  have HI0 := Lib.hid H0
  clear hi H0
  refine range_boxed rfl (by omega) (gf := 100) (lb := #[.pointer (some ⟨w.heap.size + 1 + 1, 0, none⟩)]) rfl trivial (enters_of Tryz.func100 (by kernel_rfl) rfl)
    (all1_stops _ (by omega) (w.heap.size + 1 + 1) (w.heap.size + 3) q L WR hS cR (by omega)) kept_t (fun W l o o' hl => kept_b (by omega) W l o o' hl) (fun _ _ h => kept_below h) (Below.refl _ _) (fun _ => rfl)
    (fun (pre : List Ent) W => LRun w n pre W)
    (fun c pre W => False)
    (fun s W W' row hs hg hr => hs.turned hg (fun k e => (hr k e).2) (fun k e => by have := (hr k e).1; omega))
    (fun c s W W' row hs hg hr => hs)
    b0 49 (fun x => #[.int .i64 x.1, .int .i64 x.2.1, .int .i64 x.2.2]) ?a₁ ?assign ?body ?done ?stop
  case assign =>
    intro l y b W K hb hK
    simp only [entA]
    have HB := Lib.hid hb
    clear hb
    gi_wp2
    simp only [HB.out]
    exact hK
  case body =>
    rintro l pre y g W hl ⟨rc, hrc⟩ hrn he hlen
    obtain ⟨a, b, c⟩ := y
    dsimp only at he ⊢
    rw [HN.out] at hlen
    have q0 := he.cell 0
    have q1 := he.cell 1
    have q2 := he.cell 2
    have v0 := hrn.var.cell 0
    have hb1 := below_alloc W (.cells #[.int .i64 a, .int .i64 b, .int .i64 c] 49)
    have hown1 := own_keep' hrn.row hb1
    have hv1 := hrn.var.below hb1 hrn.var.lt
    obtain ⟨w3, hrun, hown3, hg3⟩ := run_append_fits (P := Tryz.prog) _ w.heap.size 150 150 49 i0 3 Tryz.underlying150 HI.out HI0.out w.heap.size pre.length n (trs pre) hown1 ⟨W.heap.size, 0, none⟩ 1 1 [.int .i64 a, .int .i64 b, .int .i64 c] rfl (by
      intro j u hj
      rw [Go.WideShapes.add_plain, Nat.zero_add, (Holds.new W 49 #[.int .i64 a, .int .i64 b, .int .i64 c]).cell]
      simpa using hj) (by simp [Value.oneCell']) (by omega)
    have hv3 := hv1.grown hg3 (by simp)
    have f3 := hv3.soft 0
    have v3 := hv3.cell 0
    have hp : (pre ++ [(a, b, c)]).length = pre.length + 1 := by simp
    have hch : Chg (fun k => k = w.heap.size ∨ k = w.heap.size + 1) W (w3.setCell ⟨w.heap.size + 1, 0, none⟩ (.slice (some ⟨w.heap.size, 0, none⟩) (pre.length + 1) n)) :=
      (Chg.of_below (fun k => k = w.heap.size ∨ k = w.heap.size + 1) hb1).trans ((Chg.of_grown (S := fun k => k = w.heap.size ∨ k = w.heap.size + 1) hg3 (fun k e => by cases e; exact .inl rfl)).trans (Chg.set (S := fun k => k = w.heap.size ∨ k = w.heap.size + 1) w3 (w.heap.size + 1) 0 _ (.inr rfl)) (fun _ _ h => h)) (fun _ _ h => h)
    have HR := Lib.hid (show LRun w n (pre ++ [(a, b, c)]) (w3.setCell ⟨w.heap.size + 1, 0, none⟩ (.slice (some ⟨w.heap.size, 0, none⟩) (pre.length + 1) n)) from by
      refine ⟨by omega, ?_, ?_, Below.chg hrn.below hch hrn.below.size (fun k hk => by omega)⟩
      · rw [hp]
        exact hv3.put 0 _
      · rw [hp, trs_append]
        exact hown3.kept (row := some (w.heap.size + 1)) (grown_set _ _ _ _) (.inr (by simp [Value.ownBlock])))
    have HK := Lib.hid (kept_chg (n := w.heap.size + 3) hch (fun k hk => by omega))
    have HO := Lib.hid (show KeepsFrom WR.heap.size W _ from (others_of_chg hch (fun k e => by
      rcases e with rfl | rfl
      · rcases own_open hrn.row with ⟨e1, _, _⟩ | ⟨g', cap', cur', e1, _, hH, _⟩
        · cases e1
        · simp only [Value.slice.injEq, Option.some.injEq, Addr.mk.injEq, true_and, and_true] at e1
          obtain ⟨rfl, rfl⟩ := e1
          exact ⟨_, _, _, hH⟩
      · exact ⟨_, _, _, hrn.var⟩)).from _)
    obtain ⟨m, hm⟩ : ∃ m, pre.length = m := ⟨_, rfl⟩
    rw [hm] at v0 hrun HR HK HO v3
    have HRun := Lib.hid hrun
    clear hrn hch hp hm hown1 hown3 hg3 hv1 hv3 hb1 hrun he hlen
    gi_wp2_with (refine wpListIn_append_known rfl (.tmp 11) (.tmp 13) 150 rfl (.slice (some ⟨w.heap.size, 0, none⟩) m n) (.slice (some ⟨W.heap.size, 0, none⟩) 1 1) rfl rfl HRun.out ?_)
    exact ⟨HO.out, HK.out, HR.out⟩
  case done =>
    rintro D ys W hD rfl hrn hDk
    have c2 := hrn.var.cell 0
    have hB := hrn.below
    have hro := hrn.row
    rw [HN.out] at c2
    have HRo := Lib.hid hro
    clear hrn hro
    gi_wp2
    exact list_leaves (v := .slice (some ⟨w.heap.size, 0, none⟩) n n) (c := n) (by rw [HN.out]) (by have := HRo.out; rw [HN.out] at this ⊢; exact this) hB (by omega) hDk rfl
  case stop =>
    rintro D c pre W hD hpre hf hDk
    exact hf.elim
end Go.Proofs.YtgmeakcfiaopcaaGreat

/- The laws' first call; a law's new table. -/
namespace Go.Proofs.YtgmeakcfiaopcaaGreat
open Go.RowKit
set_option linter.unusedVariables false
set_option linter.unusedSimpArgs false

theorem tb_new (w : World) : Tb (w.alloc (.cells #[.int .i64 0, .int .i64 0, .int .i64 0, .int .i64 0, .int .i64 0, .int .i64 0, .int .i64 0, .int .i64 0, .int .i64 0, .int .i64 0, .int .i64 0, .int .i64 0, .int .i64 0, .int .i64 0, .int .i64 0, .int .i64 0, .int .i64 0, .int .i64 0, .int .i64 0, .int .i64 0, .int .i64 0, .int .i64 0, .int .i64 0, .int .i64 0, .int .i64 0] 85)) w.heap.size 0 85 [] [] [] := by
  refine ⟨List.replicate 8 (0, 0, 0), rfl, rfl, Nat.zero_le _, rfl, ?_⟩
  exact Holds.new w _ _
theorem tb_below {w0 w w' : World} {g o : Nat} {t : TypeId} {pre post : List Value} {L : List Ent} (h : Tb w g o t pre post L) (hb : Below w0.heap.size w0 w) (hc : Chg (fun k => k = g) w w') (hg : w0.heap.size ≤ g) : Below w0.heap.size w0 w' :=
  Below.chg hb hc hb.size (fun k hk => by subst hk; exact hg)
theorem pushL_nil (e : Ent) : pushL [] e = [e] := rfl
theorem later_nil (e : Ent) : Later [] e := fun _ h => by cases h
end Go.Proofs.YtgmeakcfiaopcaaGreat

/- A slice of entries (structs of three integers), read and appended to; one that came in. Nothing here speaks of one program. -/
namespace Go.Proofs.YtgmeakcfiaopcaaGreat
open Go.RowKit
set_option linter.unusedVariables false
set_option linter.unusedSimpArgs false

/-- A slice of entries, at blocks from B on. -/
structure TRow (w : World) (B : Nat) (A : Option Addr) (n c : Nat) (L : List Ent) : Prop where
  len : L.length = n
  cap_le : n ≤ c
  max : c ≤ maxLen
  nil : A = none → c = 0
  cell : 0 < n → ∃ b off, A = some ⟨b, off, none⟩ ∧ B ≤ b ∧ b < w.heap.size ∧ ∀ j v, (trs L)[j]? = some v → w.cell? ⟨b, off + j, none⟩ = some v
section
variable {w w' : World} {B : Nat} {A : Option Addr} {n c : Nat} {L : List Ent}
theorem trow_none (w : World) (B : Nat) : TRow w B none 0 0 [] := ⟨rfl, Nat.le_refl _, Nat.zero_le _, fun _ => rfl, fun h => absurd h (Nat.lt_irrefl _)⟩
theorem TRow.chg {S : Nat → Prop} (h : TRow w B A n c L) (hc : Chg S w w') (hS : ∀ k, B ≤ k → ¬ S k) : TRow w' B A n c L :=
  ⟨h.len, h.cap_le, h.max, h.nil, fun hn => by
    obtain ⟨b, off, e, hB, hb, hh⟩ := h.cell hn
    exact ⟨b, off, e, hB, Nat.lt_of_lt_of_le hb hc.size, fun j v hv => (hc.cell hb (hS b hB)).trans (hh j v hv)⟩⟩
theorem TRow.below (h : TRow w B A n c L) (hb : Below w.heap.size w w') : TRow w' B A n c L := h.chg (Chg.of_below (fun _ => False) hb) (fun _ _ h => h)
theorem TRow.mono {B' : Nat} (h : TRow w B A n c L) (hB : B' ≤ B) : TRow w B' A n c L :=
  ⟨h.len, h.cap_le, h.max, h.nil, fun hn => by
    obtain ⟨b, off, e, hb, r⟩ := h.cell hn
    exact ⟨b, off, e, Nat.le_trans hB hb, r⟩⟩
theorem TRow.at (h : TRow w B A n c L) {i : Nat} {e : Ent} (hi : L[i]? = some e) :
    ∃ b off, A = some ⟨b, off, none⟩ ∧ w.cell? ⟨b, off + i * 3, none⟩ = some (.int .i64 e.1) ∧ w.cell? ⟨b, off + i * 3 + 1, none⟩ = some (.int .i64 e.2.1) ∧ w.cell? ⟨b, off + i * 3 + 2, none⟩ = some (.int .i64 e.2.2) := by
  have hlt := (List.getElem?_eq_some_iff.1 hi).1
  obtain ⟨b, off, e1, _, _, hh⟩ := h.cell (by rw [h.len] at hlt; omega)
  obtain ⟨g0, g1, g2⟩ := trs_get L i e hi
  exact ⟨b, off, e1, hh _ _ g0, by rw [Nat.add_assoc]; exact hh _ _ g1, by rw [Nat.add_assoc]; exact hh _ _ g2⟩
theorem TRow.of_own {e : TypeId} (h : w.ownsRow B e 3 (.slice A n c) n (trs L)) : TRow w B A n c L := by
  have hl := h.1
  rw [trs_len] at hl
  rcases own_open h with ⟨e1, hn, _⟩ | ⟨g, cap, cur, e1, hB, hH, hnc, hcm, hcl, hct⟩
  · simp only [Value.slice.injEq] at e1
    obtain ⟨rfl, rfl, rfl⟩ := e1
    exact ⟨by omega, Nat.le_refl _, Nat.zero_le _, fun _ => rfl, fun h => absurd h (Nat.lt_irrefl _)⟩
  · simp only [Value.slice.injEq, true_and] at e1
    obtain ⟨rfl, rfl⟩ := e1
    refine ⟨by omega, hnc, hcm, (fun h => by cases h), fun hn => ⟨g, 0, rfl, hB, hH.lt, fun j v hv => ?_⟩⟩
    have hj := (List.getElem?_eq_some_iff.1 hv).1
    rw [Nat.zero_add, hH.cell, List.getElem?_toArray, ← hv, ← hct, List.getElem?_take, if_pos (by rw [trs_len] at hj; omega)]
/-- The first entry cut off. -/
theorem TRow.tail {g : Nat} (h : TRow w B (some ⟨g, 0, none⟩) n c L) (hn : 1 < n) : TRow w B (some ⟨g, 3, none⟩) (n - 1) (c - 1) L.tail := by
  have := h.cap_le
  have := h.max
  refine ⟨by rw [List.length_tail, h.len], by omega, by omega, (fun h => by cases h), fun _ => ?_⟩
  obtain ⟨b, off, e, hB, hb, hh⟩ := h.cell (by omega)
  simp only [Option.some.injEq, Addr.mk.injEq, and_true] at e
  obtain ⟨rfl, rfl⟩ := e
  refine ⟨g, 3, rfl, hB, hb, fun j v hv => ?_⟩
  have := hh (3 + j) v (by
    rw [← hv, ← List.drop_one, ← trs_drop, List.getElem?_drop])
  simpa using this
end
/-- A list appended to a row of the call's own. -/
theorem run_append_tr {P : Program} (w : World) (B B2 : Nat) (t ty e : TypeId) (i : TypeInfo) (z : Value) (ht : P.underlying t = some (.slice e)) (hi : P.info? e = some i) (hz : i.zero = some z)
    (hsize : i.size = 3) (hby : i.bytes = 24) (hzs : z.cells.size = 3) (v : Value) (n : Nat) (xs : List Value) (hown : w.ownsRow B e 3 v n xs)
    (A : Option Addr) (m c : Nat) (L : List Ent) (hr : TRow w B2 A m c L) (hm : n + m ≤ 1000) (hbase : B ≤ w.heap.size) :
    ∃ A' c' w', (Builtin.append_ #[t, t] ty #[v, .slice A m c]).run P w = .ok (.slice A' (n + m) c') w' ∧ w'.ownsRow B e 3 (.slice A' (n + m) c') (n + m) (xs ++ trs L) ∧ w.grownBy w' v.ownBlock ∧
      ∀ q, (Value.slice A' (n + m) c').ownBlock = some q → v.ownBlock = some q ∨ w.heap.size ≤ q := by
  rcases A with _ | ad
  · have hc := hr.nil rfl
    have hcl := hr.cap_le
    obtain rfl : m = 0 := by omega
    have hn : L = [] := List.eq_nil_of_length_eq_zero hr.len
    subst hn
    obtain ⟨A', c', rfl⟩ := own_shape hown
    refine ⟨A', c', w, ?_, by simpa [trs_nil] using hown, ⟨rfl, rfl, rfl, Nat.le_refl _, fun _ _ _ => rfl⟩, fun q hq => .inl hq⟩
    rw [Nat.add_zero]
    exact run_append_owned_none (P := P) w B t ty e i 3 ht hi _ n xs hown
  · refine run_append_rowK (P := P) w B t ty e i z 3 24 ht hi hz hsize hby hzs (by omega) v n xs hown ad m c (trs L) (by rw [trs_len, hr.len]) (fun j u hj => ?_) (trs_one L) (by unfold maxLen; omega) (by omega) hbase
    have hjl := (List.getElem?_eq_some_iff.1 hj).1
    rw [trs_len, hr.len] at hjl
    obtain ⟨b, off, e1, _, _, hh⟩ := hr.cell (by omega)
    simp only [Option.some.injEq] at e1
    subst e1
    rw [Go.WideShapes.add_plain]
    exact hh j u hj
/-- A law's slice of entries. -/
theorem fit3 {W : World} {vs : List Value} (h : Fit W [.int .i64, .int .i64, .int .i64] vs) : ∃ e : Ent, vs = [.int .i64 e.1, .int .i64 e.2.1, .int .i64 e.2.2] ∧ Fits e.1 ∧ Fits e.2.1 ∧ Fits e.2.2 := by
  match vs, h.length, h with
  | [y0, y1, y2], _, h =>
    obtain ⟨⟨x0, rfl, h0⟩, ⟨x1, rfl, h1⟩, ⟨x2, rfl, h2⟩, _⟩ := h
    exact ⟨(x0, x1, x2), rfl, fits_wf h0, fits_wf h1, fits_wf h2⟩
theorem trs_at : ∀ (L : List Ent) (j : Nat), (trs L)[j]? = (L[j / 3]?).bind fun e => [Value.int .i64 e.1, .int .i64 e.2.1, .int .i64 e.2.2][j % 3]?
  | [], j => by simp [trs_nil]
  | e :: L, 0 => rfl
  | e :: L, 1 => rfl
  | e :: L, 2 => rfl
  | e :: L, j + 3 => by
    rw [trs_cons]
    simp only [List.getElem?_cons_succ]
    rw [trs_at L j, show (j + 3) / 3 = j / 3 + 1 by omega, show (j + 3) % 3 = j % 3 by omega, List.getElem?_cons_succ]
theorem trow_of_flat {W : World} {A : Option Addr} {n c : Nat} {f : Nat → List Value} (h : FlatRow W [.int .i64, .int .i64, .int .i64] A n c f) :
    ∃ L : List Ent, TRow W 0 A n c L ∧ ∀ e ∈ L, Fits e.1 ∧ Fits e.2.1 ∧ Fits e.2.2 := by
  have hex : ∀ i, ∃ e : Ent, i < n → f i = [.int .i64 e.1, .int .i64 e.2.1, .int .i64 e.2.2] ∧ Fits e.1 ∧ Fits e.2.1 ∧ Fits e.2.2 := fun i => by
    by_cases hi : i < n
    · obtain ⟨e, h1, h2⟩ := fit3 (h.fit i hi)
      exact ⟨e, fun _ => ⟨h1, h2⟩⟩
    · exact ⟨(0, 0, 0), fun h => absurd h hi⟩
  obtain ⟨g, hg⟩ := Classical.axiomOfChoice hex
  refine ⟨(List.range n).map g, ⟨by simp, h.cap_le, h.max, h.nil, fun hn => ?_⟩, ?_⟩
  · obtain ⟨b, off, e, hb, hc⟩ := h.cell hn
    refine ⟨b, off, e, Nat.zero_le _, hb, fun j v hv => ?_⟩
    rw [trs_at] at hv
    by_cases hj : j / 3 < n
    · have hr : ((List.range n).map g)[j / 3]? = some (g (j / 3)) := by simp [hj]
      rw [hr] at hv
      have h1 := hc (j / 3) hj (j % 3) (by show j % 3 < 3; omega)
      have h2 : j / 3 * [FK.int .i64, FK.int .i64, FK.int .i64].length + j % 3 = j := by show j / 3 * 3 + j % 3 = j; omega
      rw [h2, (hg _ hj).1] at h1
      rw [h1]
      exact hv
    · have hr : ((List.range n).map g)[j / 3]? = none := by rw [List.getElem?_eq_none]; simp; omega
      rw [hr] at hv
      cases hv
  · intro e he
    simp only [List.mem_map, List.mem_range] at he
    obtain ⟨i, hi, rfl⟩ := he
    exact (hg i hi).2
section
variable {P : Program} {w : World}
/-- In a walk: one entry (just laid as a slice of one) is appended to a row of the call's own. -/
theorem wpList_push_ent {ops : Array Oper} {rest : List Oper} {o : Oper} {a : Act} {Q : Exit → Act → World → Prop} (hgd : o.guard = none) (s x : Operand) (t : TypeId)
    (ho : o.op = .call { callee := .builtin .append, args := #[s, x], argTypes := #[t, t] })
    (B : Nat) (e : TypeId) (ht : P.underlying t = some (.slice e)) (hi : (P.info? e).map (fun i => (i.zero, i.size, i.bytes)) = some (some (.agg #[.int .i64 0, .int .i64 0, .int .i64 0]), 3, 24))
    (A : Option Addr) (n c : Nat) (L : List Ent) (hs : a.eval s = .slice A n c) (hown : w.ownsRow B e 3 (.slice A n c) n (trs L))
    (g : Nat) (te : TypeId) (y : Ent) (hx : a.eval x = .slice (some ⟨g, 0, none⟩) 1 1) (hH : Holds w g te #[.int .i64 y.1, .int .i64 y.2.1, .int .i64 y.2.2]) (hn : n ≤ 1000) (hbase : B ≤ w.heap.size)
    (h : ∀ A' c' w', w'.ownsRow B e 3 (.slice A' (n + 1) c') (n + 1) (trs (L ++ [y])) → Below B w w' → wpList P ops Q rest (a.put o.dst (.slice A' (n + 1) c')) w') :
    wpList P ops Q (o :: rest) a w := by
  obtain ⟨i, hi0, hzz⟩ := Option.map_eq_some_iff.1 hi
  simp only [Prod.mk.injEq] at hzz
  obtain ⟨hz, hsz, hby⟩ := hzz
  refine wpList_append_rowK w hgd s x t ho B e i _ 3 24 ht hi0 hz hsz hby rfl (by decide) _ n (trs L) hs hown ⟨g, 0, none⟩ 1 1 (trs [y]) hx rfl (fun j u hj => ?_) (trs_one _) (by unfold maxLen; omega) (by omega) hbase ?_
  · rw [Go.WideShapes.add_plain, Nat.zero_add, hH.cell]
    rw [List.getElem?_toArray]
    exact hj
  · intro A' c' w' h1 h2 _
    rw [← trs_append] at h1
    exact h A' c' w' h1 ((Below.refl _ _).grown h2 hbase (fun k hk => (hown.lt k hk).1))
end
end Go.Proofs.YtgmeakcfiaopcaaGreat

/- The document's list of entries: Add, Hops. -/
namespace Go.Proofs.YtgmeakcfiaopcaaGreat
open Go.RowKit
set_option linter.unusedVariables false
set_option linter.unusedSimpArgs false

theorem run_max3 (a b : Int) (w : World) : (Builtin.max_ #[3, 3] 3 #[.int .i64 a, .int .i64 b]).run Tryz.prog w = .ok (.int .i64 (if a < b then b else a)) w := by
  simp [Builtin.max_, Builtin.max2, go_sem]
theorem rhops_any (w : World) (B : Nat) (A : Option Addr) (n c : Nat) (L : List Ent) (h : TRow w B A n c L) (hn : n ≤ 1000) :
    Calls Tryz.prog 80 #[.slice A n c] w fun e w' => e = .returned (.int .i64 (mostL L)) ∧ Below w.heap.size w w' := by
  have H := Lib.hid h
  have HL := Lib.hid h.len
  have HMx := Lib.hid (fun a b w => run_max3 a b w)
  clear h
  go_enter Tryz.func80, Tryz.ntmps80
  go_wp2
  go_loopw [3, 8] (fun x i wr => ∃ k : Nat, k ≤ n ∧ i = .int .i64 (k : Int) ∧ x = .int .i64 (mostL (L.take k)) ∧ Below w.heap.size w wr) (fun _ i _ => n - (intOf i).toNat)
  case atStart => exact ⟨0, Nat.zero_le _, rfl, rfl, Below.refl _ _⟩
  case round =>
    obtain ⟨k, hk, rfl, rfl, hb⟩ := hrel
    by_cases hlt : k < n
    · obtain ⟨x, hx⟩ : ∃ x, L[k]? = some x := ⟨_, List.getElem?_eq_getElem (by rw [HL.out]; exact hlt)⟩
      obtain ⟨b, off, rfl, q0, q1, q2⟩ := (H.out.below hb).at hx
      have hnext : L.take (k + 1) = L.take k ++ [x] := by
        have hl := (List.getElem?_eq_some_iff.1 hx).1
        rw [List.take_succ_eq_append_getElem hl]
        rw [List.getElem?_eq_getElem hl] at hx
        cases hx
        rfl
      obtain ⟨a, b2, c2⟩ := x
      dsimp only at q0 q1 q2
      have hmx := HMx.out (mostL (L.take k)) c2
      have hsn := mostL_snoc (L.take k) (a, b2, c2)
      dsimp only at hsn
      rw [← hsn, ← hnext] at hmx
      obtain ⟨M, hM⟩ : ∃ M, mostL (L.take (k + 1)) = M := ⟨_, rfl⟩
      obtain ⟨M0, hM0⟩ : ∃ M, mostL (L.take k) = M := ⟨_, rfl⟩
      simp only [hM, hM0] at hmx
      have HM := Lib.hid hM
      have HB := Lib.hid (hb.alloc hb.size (.cells #[.int .i64 a, .int .i64 b2, .int .i64 c2] 51))
      simp only [hM0]
      clear hsn hnext hM hM0 hb hx
      go_wp2
      go_roundw
      case rel => exact ⟨k + 1, by omega, by go_num, by rw [HM.out], HB.out⟩
      case measure => simp [intOf]; omega
    · have hkl : L.take k = L := List.take_of_length_le (by rw [HL.out]; omega)
      rw [hkl]
      clear hkl
      go_wp2
      go_ret
      exact ⟨rfl, hb⟩
end Go.Proofs.YtgmeakcfiaopcaaGreat

/- Tables: what rises, what is newest. -/
namespace Go.Proofs.YtgmeakcfiaopcaaGreat
open Go.RowKit
set_option linter.unusedVariables false
set_option linter.unusedSimpArgs false

def Rising (L : List Ent) : Prop := L.Pairwise fun x y => x.1 < y.1
theorem rising_nil : Rising [] := List.Pairwise.nil
theorem rising_push {L : List Ent} {e : Ent} (h : Rising L) (hl : Later L e) : Rising (pushL L e) := by
  have hall : ∀ x ∈ L, x.1 < e.1 := fun x hx => by
    rcases List.eq_nil_or_concat L with rfl | ⟨M, y, rfl⟩
    · cases hx
    · rw [List.concat_eq_append] at h hx hl
      have hy := hl y (by simp)
      rcases List.mem_append.1 hx with hx | hx
      · have := (List.pairwise_append.1 h).2.2 x hx y (by simp)
        omega
      · simp only [List.mem_singleton] at hx
        subst hx
        exact hy
  have key : ∀ M : List Ent, M.Sublist L → Rising (M ++ [e]) := fun M hM =>
    List.pairwise_append.2 ⟨List.Pairwise.sublist hM h, List.pairwise_singleton _ _, fun x hx y hy => by
      simp only [List.mem_singleton] at hy
      subst hy
      exact hall x (hM.subset hx)⟩
  unfold pushL
  split
  · exact key _ (List.tail_sublist _)
  · exact key _ (List.Sublist.refl _)
theorem rising_at {L : List Ent} (h : Rising L) {i : Nat} {x y : Ent} (hx : L[i]? = some x) (hy : L[i + 1]? = some y) : x.1 < y.1 := by
  obtain ⟨h1, e1⟩ := List.getElem?_eq_some_iff.1 hx
  obtain ⟨h2, e2⟩ := List.getElem?_eq_some_iff.1 hy
  have := List.pairwise_iff_getElem.1 h i (i + 1) h1 h2 (Nat.lt_succ_self _)
  rw [e1, e2] at this
  exact this
theorem push_snoc (L : List Ent) (e : Ent) : ∃ M, pushL L e = M ++ [e] := by
  unfold pushL
  split
  · exact ⟨_, rfl⟩
  · exact ⟨_, rfl⟩
theorem not_later {L : List Ent} {a b c : Int} (h : ¬ Later L (a, b, c)) : ∃ M x y z, L = M ++ [(x, y, z)] ∧ a ≤ x := by
  rcases List.eq_nil_or_concat L with rfl | ⟨M, x, rfl⟩
  · exact absurd (later_nil _) h
  · obtain ⟨x, y, z⟩ := x
    rw [List.concat_eq_append] at h ⊢
    refine ⟨M, x, y, z, rfl, ?_⟩
    refine Classical.byContradiction fun hn => h fun v hv => ?_
    simp at hv
    subst hv
    show x < a
    omega
theorem ents_at {w : World} {B : Nat} {t : TypeId} {g n c : Nat} {L : List Ent} (h : w.ownsRow B t 3 (.slice (some ⟨g, 0, none⟩) n c) n (trs L)) {i : Nat} {x : Ent} (hx : L[i]? = some x) :
    w.cell? ⟨g, i * 3, none⟩ = some (.int .i64 x.1) ∧ w.cell? ⟨g, i * 3 + 1, none⟩ = some (.int .i64 x.2.1) ∧ w.cell? ⟨g, i * 3 + 2, none⟩ = some (.int .i64 x.2.2) := by
  obtain ⟨b, off, e, q0, q1, q2⟩ := (TRow.of_own h).at hx
  simp only [Option.some.injEq, Addr.mk.injEq, and_true] at e
  obtain ⟨rfl, rfl⟩ := e
  rw [Nat.zero_add] at q0 q1 q2
  exact ⟨q0, q1, q2⟩
end Go.Proofs.YtgmeakcfiaopcaaGreat

