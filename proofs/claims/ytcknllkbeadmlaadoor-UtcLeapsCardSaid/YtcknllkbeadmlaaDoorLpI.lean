/- Package leap: Ahead, Step. -/
import Derived.Test.YtcknllkbeadmlaaDoorLpH
namespace Go.Proofs.YtcknllkbeadmlaaDoor
open Go.RowKit Go.Shelf
set_option linter.unusedVariables false
set_option linter.unusedSimpArgs false
attribute [local go_sem] Oper.semAt_some

/-- By how much TAI is ahead as a day begins. -/
def aheadL (n : Int) (L : List (Int × Int)) (d : Int) : Int := L.foldl (fun n e => if e.1 < d then n + e.2 else n) n
theorem aheadL_snoc (n : Int) (L : List (Int × Int)) (e : Int × Int) (d : Int) : aheadL n (L ++ [e]) d = if e.1 < d then aheadL n L d + e.2 else aheadL n L d := by
  unfold aheadL
  rw [List.foldl_append]
  rfl
theorem aheadL_cons (n : Int) (L : List (Int × Int)) (e : Int × Int) (d : Int) : aheadL n (e :: L) d = aheadL (if e.1 < d then n + e.2 else n) L d := rfl
/-- Steps of one second. -/
def Ones (L : List (Int × Int)) : Prop := ∀ e ∈ L, e.2 = 1 ∨ e.2 = -1
theorem aheadL_bd : ∀ (L : List (Int × Int)) (n d : Int), Ones L → n - L.length ≤ aheadL n L d ∧ aheadL n L d ≤ n + L.length
  | [], n, d, _ => by simp [aheadL]
  | e :: L, n, d, h => by
    have h0 := h e (List.mem_cons_self ..)
    have := aheadL_bd L (if e.1 < d then n + e.2 else n) d (fun x hx => h x (List.mem_cons_of_mem _ hx))
    rw [aheadL_cons]
    simp only [List.length_cons]
    split at this <;> split <;> first | omega | (exfalso; omega)
theorem ones_pre {L pre : List (Int × Int)} (h : Ones L) (hp : pre <+: L) : Ones pre := fun e he => h e (hp.subset he)
/-- By how much a day is longer. -/
def stepL (L : List (Int × Int)) (d : Int) : Int := match L.find? (fun e => decide (e.1 = d)) with
  | some e => e.2
  | none => 0
/-- Between two leaps that Ahead looks at. -/
theorem w64_add (a b : Int) : IntKind.i64.wrap (IntKind.i64.wrap a + b) = IntKind.i64.wrap (a + b) := by
  rw [IntKind.wrap_i64, IntKind.wrap_i64, IntKind.wrap_i64]
  omega
/-- Between two leaps that Ahead looks at. -/
structure ARun (w : World) (s : Nat) (d n : Int) (L pre : List (Int × Int)) (W : World) : Prop where
  at' : s = w.heap.size + 1
  day : Holds W w.heap.size 3 #[.int .i64 d]
  sec : Holds W s 3 #[.int .i64 (IntKind.i64.wrap (aheadL n pre d))]
  below : Below w.heap.size w W
theorem ARun.turned {w : World} {s : Nat} {d n : Int} {L pre : List (Int × Int)} {W W' : World} {row : Option Nat} (h : ARun w s d n L pre W) (hg : W.grownBy W' row) (hr : NoCells W row) (hb : ∀ k, row = some k → w.heap.size ≤ k) : ARun w s d n L pre W' :=
  ⟨h.at', h.day.turned hg hr, h.sec.turned hg hr, h.below.grown hg h.below.size hb⟩
theorem ahead_leaves {n : Nat} {w : World} {W : World} {tmps : Array Value} {v : Int} {D : Nat} (hb : Below w.heap.size w W)
    (hD : w.heap.size ≤ D) (hDk : W.heap[D]? = some (.deferred (some []))) (t4 : tmps.getD 4 undef = .int .i64 v) (t5 : tmps.getD 5 undef = .bool true) :
    LeavesInM Fence.wide n Tryd.prog Tryd.f51 tmps (fun e w' => e = .returned (.tuple #[.int .i64 v, .bool true]) ∧ Below w.heap.size w w') [mark D] .returning W := by
  refine leaves_marks (I := fun W => Below w.heap.size w W) (lo := w.heap.size) (hi := D + 1) (fun W D' hD' hI hd => ?_) (fun W hI => ?_) [D] W ⟨by simp, fun E hE => by
    simp only [List.mem_cons, List.not_mem_nil, or_false] at hE
    subst hE
    exact ⟨hD, Nat.lt_succ_self _, hDk⟩⟩ hb
  · have hg := grownBy_putObj' W D' (.deferred none)
    exact hI.grown hg hI.size (fun k e => by cases e; exact hD')
  · refine ⟨.tuple #[.int .i64 v, .bool true], ?_, rfl, hI⟩
    have t4' : tmps[4]?.getD undef = .int .i64 v := by simpa using t4
    have t5' : tmps[5]?.getD undef = .bool true := by simpa using t5
    simp [results, Tryd.f51, go_sem, t4', t5']
theorem ahead_no (w : World) (a : Nat) (p : Option Addr) (st en : Int) (L : List (Int × Int)) (d : Int) (h : Src w a p st en L) (hd : d < st ∨ en ≤ d) :
    Calls Tryd.prog 51 #[.pointer p, .int .i64 d] w fun e w' => e = .returned (.tuple #[.int .i64 0, .bool false]) ∧ Below w.heap.size w w' := by
  have HB := Lib.hid (below_alloc w (.cells #[.int .i64 d] 3))
  have HR := Lib.hid (range_any _ a p st en L (h.below HB.out))
  have c0 := (Holds.new w 3 #[.int .i64 d]).cell 0
  clear h
  by_cases h1 : d < st
  · have e1 : decide (d < st) = true := decide_eq_true h1
    clear hd
    go_enter Tryd.func51, Tryd.ntmps51
    go_wp2_with (go_at_call 62; refine HR.out.mono ?_; rintro e w1 ⟨rfl, n, rfl⟩)
    go_ret2
    exact ⟨rfl, below_drewN HB.out _⟩
  · have h2 : en ≤ d := by omega
    have e1 : decide (d < st) = false := decide_eq_false h1
    have e2 : decide (en ≤ d) = true := decide_eq_true h2
    clear hd
    go_enter Tryd.func51, Tryd.ntmps51
    go_wp2_with (go_at_call 62; refine HR.out.mono ?_; rintro e w1 ⟨rfl, n, rfl⟩)
    go_ret2
    exact ⟨rfl, below_drewN HB.out _⟩
set_option maxRecDepth 100000 in
set_option maxHeartbeats 4000000 in
theorem ahead_yes (w : World) (g : Nat) (T : TB) (d : Int) (h : Rt w w.heap.size g T) (h1 : T.st ≤ d) (h2 : d < T.en) (h3 : Ones T.lp) (h4 : 0 ≤ T.ah ∧ T.ah ≤ 1000) :
    Calls Tryd.prog 51 #[.pointer (some ⟨g, 0, none⟩), .int .i64 d] w fun e w' => e = .returned (.tuple #[.int .i64 (aheadL T.ah T.lp d), .bool true]) ∧ Below w.heap.size w w' := by
  have e1 : decide (d < T.st) = false := decide_eq_false (by omega)
  have e2 : decide (T.en ≤ d) = false := decide_eq_false (by omega)
  have HB := Lib.hid (below_alloc w (.cells #[.int .i64 d] 3))
  have HR := Lib.hid (range_any _ w.heap.size _ T.st T.en T.lp (h.src.below HB.out))
  have c0 := (Holds.new w 3 #[.int .i64 d]).cell 0
  have H := Lib.hid h
  obtain ⟨hlt, hfew, A, c, hH, _, _⟩ := h
  have c1 : (w.alloc (.cells #[.int .i64 d] 3)).cell? ⟨g, 1, none⟩ = some (.int .i64 T.ah) := (hH.alloc _).cell 1
  have HBd := Lib.hid (fun pre (hp : pre <+: T.lp) => aheadL_bd pre T.ah d (ones_pre h3 hp))
  have HLen := Lib.hid (fun pre (hp : pre <+: T.lp) => hp.length_le)
  have HOne := Lib.hid h3
  refine (callsIn_wide (n := 4)).1 ?_
  refine callsIn_of_wp_marks Tryd.func51 rfl trivial ?_ rfl
  simp only [Tryd.ntmps51, List.size_toArray, List.length_cons, List.length_nil, Nat.reduceAdd, Nat.reduceSub, Array.replicate_succ, Array.replicate_zero, List.push_toArray, List.append_toArray, List.nil_append, List.cons_append]
  clear hH h3 hlt
  have hb1 : ∀ w1, (∃ n, w1 = (w.alloc (.cells #[.int .i64 d] 3)).drewN n) → w1.heap.size = w.heap.size + 1 ∧ Below w.heap.size w w1 ∧ w1.cell? ⟨w.heap.size, 0, none⟩ = some (.int .i64 d) ∧ w1.cell? ⟨g, 1, none⟩ = some (.int .i64 T.ah) ∧ Holds w1 w.heap.size 3 #[.int .i64 d] := by
    rintro w1 ⟨n, rfl⟩
    exact ⟨size_alloc w _, below_drewN HB.out _, c0, c1, Holds.new w _ _⟩
  have HB1 := Lib.hid hb1
  clear hb1
  gi_wp2_with (first
    | (refine ⟨trivial, ?_⟩; gi_at_call 62; refine (callsIn_wide.2 HR.out).mono ?_; rintro e w1 ⟨rfl, hn⟩; have HN := Lib.hid (HB1.out w1 hn); obtain ⟨-, -, c2, c3, -⟩ := HN.out; clear hn c0 c1)
    | (refine ⟨trivial, ?_⟩; gi_at_call 63; refine (callsIn_wide.2 (all_any _ _)).mono ?_; rintro e w' ⟨rfl, rfl⟩))
  obtain ⟨hs1, hb1, _, _, hh1⟩ := HN.out
  have sR : ((w1.alloc (.cells #[.int .i64 T.ah] 3)).alloc (.cells #[.pointer (some ⟨g, 0, none⟩)] 30)).heap.size = w.heap.size + 3 := by simp [hs1]
  have b0 : ARun w (w.heap.size + 1) d T.ah T.lp [] ((w1.alloc (.cells #[.int .i64 T.ah] 3)).alloc (.cells #[.pointer (some ⟨g, 0, none⟩)] 30)) :=
    ⟨rfl, (hh1.alloc _).alloc _, (by rw [show IntKind.i64.wrap (aheadL T.ah [] d) = T.ah from IntWalk.i64_in _ (by show _ ∧ _; unfold aheadL; simp only [List.foldl_nil]; omega)]; rw [← hs1]; exact (Holds.new w1 _ _).alloc _), (hb1.alloc (by omega) _).alloc (by simp; omega) _⟩
  have cR := (Holds.new (w1.alloc (.cells #[.int .i64 T.ah] 3)) 30 #[.pointer (some ⟨g, 0, none⟩)]).cell 0
  rw [size_alloc, hs1] at cR
  have hS := H.out.below b0.below
  obtain ⟨WR, hWR⟩ : ∃ WR, ((w1.alloc (.cells #[.int .i64 T.ah] 3)).alloc (.cells #[.pointer (some ⟨g, 0, none⟩)] 30)) = WR := ⟨_, rfl⟩
  rw [hWR] at b0 cR sR hS
  simp only [hWR]
  simp only [hs1]
  clear hWR hh1 hb1
  refine range_boxed rfl (by omega) (gf := 68) (lb := #[.pointer (some ⟨w.heap.size + 1 + 1, 0, none⟩)]) rfl trivial (enters_of Tryd.func68 (by kernel_rfl) rfl)
    (all1_stops _ (by omega) (w.heap.size + 1 + 1) w.heap.size (w.heap.size + 3) _ T.st T.en T.lp WR hS.src cR (by omega)) keptO_t (fun W l o o' _ h hc hw => keptO_b W l o o' h hc hw) (fun _ _ h => keptO_below h) (Below.refl _ _) (fun _ => rfl)
    (fun (pre : List (Int × Int)) W => ARun w (w.heap.size + 1) d T.ah T.lp pre W)
    (fun c pre W => False)
    (fun s W W' row hs hg hr => hs.turned hg (fun k e => (hr k e).2) (fun k e => by have := (hr k e).1; omega))
    (fun c s W W' row hs hg hr => hs)
    b0 63 (fun x => #[.int .i64 x.1, .int .i64 x.2]) ?a₁ ?assign ?body ?done ?stop
  case assign =>
    intro l y b W K hb hK
    simp only [lpA]
    have HB := Lib.hid hb
    clear hb
    gi_wp2
    simp only [HB.out]
    exact hK
  case body =>
    rintro l pre y q W hl ⟨rc, hrc⟩ hrn he hlen
    obtain ⟨x, y⟩ := y
    dsimp only at he ⊢
    have c0 := hrn.day.cell 0
    have c1 := hrn.sec.cell 0
    have f1 := hrn.sec.soft 0
    have e0 := he.cell 0
    have e1' := he.cell 1
    have hat := hrn.at'
    have hsn := aheadL_snoc T.ah pre (x, y) d
    dsimp only at hsn
    by_cases hx : x < d
    · rw [if_pos hx] at hsn
      have hw := w64_add (aheadL T.ah pre d) y
      rw [← hsn] at hw
      have hch := Chg.set (S := fun k => k = w.heap.size + 1) W (w.heap.size + 1) 0 (.int .i64 (IntKind.i64.wrap (aheadL T.ah (pre ++ [(x, y)]) d))) rfl
      have HR := Lib.hid (show ARun w (w.heap.size + 1) d T.ah T.lp (pre ++ [(x, y)]) (W.setCell ⟨w.heap.size + 1, 0, none⟩ (.int .i64 (IntKind.i64.wrap (aheadL T.ah (pre ++ [(x, y)]) d)))) from
        ⟨hat, hrn.day.far (by omega) _, hrn.sec.put 0 _, hrn.below.setCell (p := ⟨w.heap.size + 1, 0, none⟩) (by dsimp only; omega) _⟩)
      have HK := Lib.hid (keptO_chg (a := w.heap.size) (n := w.heap.size + 3) hch (fun k hk => by omega))
      have HO := Lib.hid (show KeepsFrom WR.heap.size W _ from (others_of_chg hch (fun k e => by subst e; exact ⟨_, _, _, hrn.sec⟩)).from _)
      obtain ⟨M, hM⟩ : ∃ M, IntKind.i64.wrap (aheadL T.ah (pre ++ [(x, y)]) d) = M := ⟨_, rfl⟩
      obtain ⟨K, hK⟩ : ∃ M, IntKind.i64.wrap (aheadL T.ah pre d) = M := ⟨_, rfl⟩
      rw [hM] at HR HK HO hw
      rw [hK] at c1 hw
      clear hrn hch hsn hM hK he hat
      gi_wp2
      exact ⟨HO.out, HK.out, HR.out⟩
    · rw [if_neg hx] at hsn
      have dx : decide (x < d) = false := decide_eq_false hx
      have HR := Lib.hid (show ARun w (w.heap.size + 1) d T.ah T.lp (pre ++ [(x, y)]) W from ⟨hat, hrn.day, by rw [hsn]; exact hrn.sec, hrn.below⟩)
      have HK := Lib.hid (keptO_below (a := w.heap.size) (n := w.heap.size + 3) (Below.refl W.heap.size W))
      have HO := Lib.hid (show KeepsFrom WR.heap.size W W from (others_of_below (Below.refl W.heap.size W)).from _)
      obtain ⟨K, hK⟩ : ∃ M, IntKind.i64.wrap (aheadL T.ah pre d) = M := ⟨_, rfl⟩
      rw [hK] at c1
      clear hrn hsn hK he hat hx
      gi_wp2
      exact ⟨HO.out, HK.out, HR.out⟩
  case done =>
    rintro D ys W hD rfl hrn hDk
    have c1 := hrn.sec.cell 0
    have hB := hrn.below
    have hv : IntKind.i64.wrap (aheadL T.ah T.lp d) = aheadL T.ah T.lp d := IntWalk.i64_in _ (by have := HBd.out T.lp (List.prefix_refl _); omega)
    rw [hv] at c1
    clear hrn hv
    gi_wp2
    exact ahead_leaves hB (by omega) hDk rfl rfl
  case stop =>
    rintro D c pre W hD hpre hf hDk
    exact hf.elim
end Go.Proofs.YtcknllkbeadmlaaDoor
