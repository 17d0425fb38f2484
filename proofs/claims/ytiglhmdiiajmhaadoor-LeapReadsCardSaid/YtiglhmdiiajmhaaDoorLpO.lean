/- Package leap: Text. WRITTEN by mklpo.py. -/
import Derived.Test.YtiglhmdiiajmhaaDoorLpN
import Derived.Test.YtiglhmdiiajmhaaDoorLpK
import Derived.Test.YtiglhmdiiajmhaaDoorRound
import Derived.Test.YtiglhmdiiajmhaaDoorRange
namespace Go.Proofs.YtiglhmdiiajmhaaDoor
open Go.RowKit Go.Shelf
set_option linter.unusedVariables false
set_option linter.unusedSimpArgs false
attribute [local go_sem] Oper.semAt_some

/-- A table that is read, the library's tables; nothing older changed. -/
structure XW (w : World) (g : Nat) (T : TB) (W : World) : Prop where
  rt : Rt W w.heap.size g T
  tab : Tab W
  below : Below w.heap.size w W
theorem XW.next {w W W' : World} {g : Nat} {T : TB} (h : XW w g T W) (hb : Below W.heap.size W W') : XW w g T W' := ⟨h.rt.below hb, h.tab.below hb, h.below.trans (hb.mono h.below.size)⟩
theorem XW.cells {w W : World} {g : Nat} {T : TB} (h : XW w g T W) : W.cell? ⟨g, 0, none⟩ = some (.int .i64 T.st) ∧ W.cell? ⟨g, 1, none⟩ = some (.int .i64 T.ah) ∧ W.cell? ⟨g, 2, none⟩ = some (.int .i64 T.en) := by
  obtain ⟨_, _, A, c, hH, _, _⟩ := h.rt
  exact ⟨hH.cell 0, hH.cell 1, hH.cell 2⟩
theorem XW.box {w W : World} {g : Nat} {T : TB} (_ : XW w g T W) (t : TypeId) (cs : Array Value) : Box W t cs (W.alloc (.cells cs t)) := Box.start W t cs
theorem XW.world {w W : World} {g : Nat} {T : TB} (_ : XW w g T W) : ∃ W0, W = W0 := ⟨_, rfl⟩
/-- What was made at block b, behind Wa. -/
structure Nw (Wa : World) (b : Nat) (t : TypeId) (cs : Array Value) (W : World) : Prop where
  size : Wa.heap.size = b
  holds : Holds W b t cs
  below : Below b Wa W
theorem XW.nw {w W : World} {g : Nat} {T : TB} (_ : XW w g T W) (t : TypeId) (cs : Array Value) : ∃ b, W.heap.size = b ∧ Nw W b t cs (W.alloc (.cells cs t)) := ⟨_, rfl, rfl, Holds.new _ _ _, below_alloc _ _⟩
theorem Nw.world {Wa W : World} {b : Nat} {t : TypeId} {cs : Array Value} (_ : Nw Wa b t cs W) : ∃ W0, W = W0 := ⟨_, rfl⟩
theorem Nw.next {Wa W W' : World} {b : Nat} {t : TypeId} {cs : Array Value} (h : Nw Wa b t cs W) (hb : Below W.heap.size W W') : Nw Wa b t cs W' := ⟨h.size, h.holds.below hb h.holds.lt, h.below.trans (hb.mono (Nat.le_of_lt h.holds.lt))⟩
theorem Nw.set {Wa W : World} {b : Nat} {t : TypeId} {a : Value} (h : Nw Wa b t #[a] W) (c : Value) : Nw Wa b t #[c] (W.setCell ⟨b, 0, none⟩ c) := ⟨h.size, h.holds.put 0 c, h.below.setCell (Nat.le_refl _) _⟩
theorem Nw.back {w Wa W : World} {g b : Nat} {T : TB} {t : TypeId} {cs : Array Value} (h : Nw Wa b t cs W) (k : XW w g T Wa) : XW w g T W := k.next (by rw [h.size]; exact h.below)
theorem Nw.made {Wa W : World} {b : Nat} {t : TypeId} {cs : Array Value} (_ : Nw Wa b t cs W) (t' : TypeId) (cs' : Array Value) : Holds (W.alloc (.cells cs' t')) W.heap.size t' cs' := Holds.new _ _ _
theorem XW.made {w W : World} {g : Nat} {T : TB} (_ : XW w g T W) (t : TypeId) (cs : Array Value) : Holds (W.alloc (.cells cs t)) W.heap.size t cs := Holds.new _ _ _
theorem Box.made {w0 W : World} {t : TypeId} {cs : Array Value} (_ : Box w0 t cs W) (t' : TypeId) (cs' : Array Value) : Holds (W.alloc (.cells cs' t')) W.heap.size t' cs' := Holds.new _ _ _
theorem Box.set {w0 W : World} {t : TypeId} {a : Value} (h : Box w0 t #[a] W) (b : Value) : Box w0 t #[b] (W.setCell ⟨w0.heap.size, 0, none⟩ b) := ⟨h.holds.put 0 b, h.below.setCell (Nat.le_refl _) _⟩
theorem words_at {W : World} {b : Nat} {xs : List ByteArray} (h : Holds W b 9 (sts xs).toArray) : ∀ (j : Nat) x, xs[j]? = some x → W.cell? ⟨b, j, none⟩ = some (.string x) := fun j x hx => by
  rw [h.cell, List.getElem?_toArray]
  exact sts_get hx
theorem text_nil (w : World) : Calls Tryd.prog 14 #[.pointer none] w fun e w' => e = .returned (.string ⟨#[]⟩) ∧ w' = w := by
  go_enter Tryd.func14, Tryd.ntmps14
  go_wp2
  go_ret
  exact ⟨rfl, rfl⟩
/-- Behind the first line. -/
def Head (w : World) (g : Nat) (T : TB) (v : Value) (W : World) : Prop := ∃ b, v = .pointer (some ⟨b, 0, none⟩) ∧ w.heap.size ≤ b ∧ Holds W b 9 #[.string (headB T.st T.ah)] ∧ XW w g T W
/-- Between two leaps. -/
structure TRun (w : World) (g b : Nat) (T : TB) (pre : List (Int × Int)) (W : World) : Prop where
  le : w.heap.size ≤ b
  txt : Holds W b 9 #[.string (leapsT (headB T.st T.ah) pre)]
  below : Below w.heap.size w W
theorem TRun.turned {w : World} {g b : Nat} {T : TB} {pre : List (Int × Int)} {W W' : World} {row : Option Nat} (h : TRun w g b T pre W) (hg : W.grownBy W' row) (hr : NoCells W row) (hb : ∀ k, row = some k → w.heap.size ≤ k) : TRun w g b T pre W' :=
  ⟨h.le, h.txt.turned hg hr, h.below.grown hg h.below.size hb⟩
theorem text_leaves {n : Nat} {w : World} {W : World} {tmps : Array Value} {s : ByteArray} {D : Nat} (hb : Below w.heap.size w W)
    (hD : w.heap.size ≤ D) (hDk : W.heap[D]? = some (.deferred (some []))) (t2 : tmps.getD 2 undef = .string s) :
    LeavesInM Fence.wide n Tryd.prog Tryd.f14 tmps (fun e w' => e = .returned (.string s) ∧ Below w.heap.size w w') [mark D] .returning W := by
  refine leaves_marks (I := fun W => Below w.heap.size w W) (lo := w.heap.size) (hi := D + 1) (fun W D' hD' hI hd => ?_) (fun W hI => ?_) [D] W ⟨by simp, fun E hE => by
    simp only [List.mem_cons, List.not_mem_nil, or_false] at hE
    subst hE
    exact ⟨hD, Nat.lt_succ_self _, hDk⟩⟩ hb
  · have hg := grownBy_putObj' W D' (.deferred none)
    exact hI.grown hg hI.size (fun k e => by cases e; exact hD')
  · refine ⟨.string s, ?_, rfl, hI⟩
    have t2' : tmps[2]?.getD undef = .string s := by simpa using t2
    simp [results, Tryd.f14, go_sem, t2']
set_option maxRecDepth 100000 in
set_option maxHeartbeats 8000000 in
theorem text_some (w : World) (g : Nat) (T : TB) (h : Rt w w.heap.size g T) (hT : Tab w) (hf : FineR T.st T.ah T.en) (hl : ∀ e ∈ T.lp, -719162 ≤ e.1 ∧ e.1 ≤ 2932896) :
    Calls Tryd.prog 14 #[.pointer (some ⟨g, 0, none⟩)] w fun e w' => e = .returned (.string (textT T)) ∧ Below w.heap.size w w' := by
  have H0 := Lib.hid (show ∀ W, Below w.heap.size w W → XW w g T W from fun W hb => ⟨h.below hb, hT.below hb, hb⟩)
  have HE := Lib.hid (show XW w g T w.drew from ⟨h.below (Below.refl _ _).drew, hT.drew, (Below.refl _ _).drew⟩)
  have HDS := Lib.hid (fun W hW => date_any T.st W hf.s1 hf.s2 hW)
  have HDE := Lib.hid (fun W hW => date_any T.en W hf.e1 hf.e2 hW)
  have HIT := Lib.hid (fun W hW => show Calls Tryd.prog 26 #[.int .i64 T.ah] W fun e w' => e = .returned (.string (decB T.ah.toNat)) ∧ Below W.heap.size W w' by
    have := itoa_any T.ah.toNat W hW (by have := hf.a2; omega)
    rwa [show ((T.ah.toNat : Nat) : Int) = T.ah by have := hf.a1; omega] at this)
  have HHS := Lib.hid (show (headB T.st T.ah).size ≤ 20 from headB_size hf.s1 hf.s2 hf.a1 hf.a2)
  have HES := Lib.hid (endLB_size hf.e1 hf.e2)
  have HL := Lib.hid hl
  have HFew := Lib.hid h.few
  clear h hT hl hf
  refine (callsIn_wide (n := 4)).1 ?_
  refine callsIn_of_wp_marks Tryd.func14 rfl trivial ?_ rfl
  simp only [Tryd.ntmps14, List.size_toArray, List.length_cons, List.length_nil, Nat.reduceAdd, Nat.reduceSub, Array.replicate_succ, Array.replicate_zero, List.push_toArray, List.append_toArray, List.nil_append, List.cons_append]
  refine wpIn_wide.2 ?_
  go_upto_region 3 with (fail)
  go_cut [3] from 7 to 19 (fun v wx => Head w g T v wx)
  case first =>
    refine (wpIn_wide (n := 4)).1 (wpIn_normal (wpIn_wide.2 ?_))
    refine region_turns (fun (w' : World) => w'.cell? ⟨g, 0, none⟩ = some (.int .i64 T.st) ∧ w'.cell? ⟨g, 1, none⟩ = some (.int .i64 T.ah) ∧ w'.cell? ⟨g, 2, none⟩ = some (.int .i64 T.en)) (fun j => decide (14 ≤ j)) (by kernel_rfl) (HE.out.cells) (fun hS => ?_)
    refine Turns.take hS 0 _ rfl (by kernel_rfl) (by kernel_rfl) (by kernel_rfl) (by kernel_rfl) (fun _ _ _ h => h) (by rfl) (fun w' hS' => by (try dsimp only at hS'); go_split_ands; go_simp; (try with_reducible rfl)) ?_
    simp only [Act.put, List.getElem_toArray, List.getElem_cons_succ, List.getElem_cons_zero, List.setIfInBounds_toArray, List.set_cons_zero, List.set_cons_succ]
    refine Turns.take hS 1 _ rfl (by kernel_rfl) (by kernel_rfl) (by kernel_rfl) (by kernel_rfl) (fun _ _ _ h => h) (by rfl) (fun w' hS' => by (try dsimp only at hS'); go_split_ands; go_simp; (try with_reducible rfl)) ?_
    simp only [Act.put, List.getElem_toArray, List.getElem_cons_succ, List.getElem_cons_zero, List.setIfInBounds_toArray, List.set_cons_zero, List.set_cons_succ]
    refine Turns.take hS 2 _ rfl (by kernel_rfl) (by kernel_rfl) (by kernel_rfl) (by kernel_rfl) (fun _ _ _ h => h) (by rfl) (fun w' hS' => by (try dsimp only at hS'); go_split_ands; go_simp; (try with_reducible rfl)) ?_
    simp only [Act.put, List.getElem_toArray, List.getElem_cons_succ, List.getElem_cons_zero, List.setIfInBounds_toArray, List.set_cons_zero, List.set_cons_succ]
    refine Turns.take hS 3 _ rfl (by kernel_rfl) (by kernel_rfl) (by kernel_rfl) (by kernel_rfl) (fun _ _ _ h => h) (by rfl) (fun w' hS' => by (try dsimp only at hS'); go_split_ands; go_simp; (try with_reducible rfl)) ?_
    simp only [Act.put, List.getElem_toArray, List.getElem_cons_succ, List.getElem_cons_zero, List.setIfInBounds_toArray, List.set_cons_zero, List.set_cons_succ]
    refine Turns.take hS 5 _ rfl (by kernel_rfl) (by kernel_rfl) (by kernel_rfl) (by kernel_rfl) (fun _ _ _ h => h) (by rfl) (fun w' hS' => by (try dsimp only at hS'); go_split_ands; go_simp; (try with_reducible rfl)) ?_
    simp only [Act.put, List.getElem_toArray, List.getElem_cons_succ, List.getElem_cons_zero, List.setIfInBounds_toArray, List.set_cons_zero, List.set_cons_succ]
    refine Turns.take hS 6 _ rfl (by kernel_rfl) (by kernel_rfl) (by kernel_rfl) (by kernel_rfl) (fun _ _ _ h => h) (by rfl) (fun w' hS' => by (try dsimp only at hS'); go_split_ands; go_simp; (try with_reducible rfl)) ?_
    simp only [Act.put, List.getElem_toArray, List.getElem_cons_succ, List.getElem_cons_zero, List.setIfInBounds_toArray, List.set_cons_zero, List.set_cons_succ]
    refine Turns.take hS 7 _ rfl (by kernel_rfl) (by kernel_rfl) (by kernel_rfl) (by kernel_rfl) (fun _ _ _ h => h) (by rfl) (fun w' hS' => by (try dsimp only at hS'); go_split_ands; go_simp; (try with_reducible rfl)) ?_
    simp only [Act.put, List.getElem_toArray, List.getElem_cons_succ, List.getElem_cons_zero, List.setIfInBounds_toArray, List.set_cons_zero, List.set_cons_succ]
    refine Turns.take hS 8 _ rfl (by kernel_rfl) (by kernel_rfl) (by kernel_rfl) (by kernel_rfl) (fun _ _ _ h => h) (by rfl) (fun w' hS' => by (try dsimp only at hS'); go_split_ands; go_simp; (try with_reducible rfl)) ?_
    simp only [Act.put, List.getElem_toArray, List.getElem_cons_succ, List.getElem_cons_zero, List.setIfInBounds_toArray, List.set_cons_zero, List.set_cons_succ]
    refine Turns.either 4 12 rfl rfl (by kernel_rfl) (by rfl) (by rfl) (fun K hK => ?_) (fun K hK => ?_)
    · go_simp
      go_at_call 25
      refine (HDS.out _ HE.out.tab).mono ?_
      rintro e w4 ⟨rfl, hb⟩
      replace HE := Lib.hid (HE.out.next hb)
      clear hb
      refine hK.out _ _ (show (fun (w' : World) => w'.cell? ⟨g, 0, none⟩ = some (.int .i64 T.st) ∧ w'.cell? ⟨g, 1, none⟩ = some (.int .i64 T.ah) ∧ w'.cell? ⟨g, 2, none⟩ = some (.int .i64 T.en)) _ from HE.out.cells) ?_
      clear hK K hS
      have hS := (show (fun (w' : World) => w'.cell? ⟨g, 0, none⟩ = some (.int .i64 T.st) ∧ w'.cell? ⟨g, 1, none⟩ = some (.int .i64 T.ah) ∧ w'.cell? ⟨g, 2, none⟩ = some (.int .i64 T.en)) _ from HE.out.cells)
      refine Turns.either 9 12 rfl rfl (by kernel_rfl) (by rfl) (by rfl) (fun K hK => ?_) (fun K hK => ?_)
      · go_simp
        go_at_call 26
        refine (HIT.out _ HE.out.tab).mono ?_
        rintro e w9 ⟨rfl, hb⟩
        replace HE := Lib.hid (HE.out.next hb)
        clear hb
        refine hK.out _ _ (show (fun (w' : World) => w'.cell? ⟨g, 0, none⟩ = some (.int .i64 T.st) ∧ w'.cell? ⟨g, 1, none⟩ = some (.int .i64 T.ah) ∧ w'.cell? ⟨g, 2, none⟩ = some (.int .i64 T.en)) _ from HE.out.cells) ?_
        clear hK K hS
        have hS := (show (fun (w' : World) => w'.cell? ⟨g, 0, none⟩ = some (.int .i64 T.st) ∧ w'.cell? ⟨g, 1, none⟩ = some (.int .i64 T.ah) ∧ w'.cell? ⟨g, 2, none⟩ = some (.int .i64 T.en)) _ from HE.out.cells)
        refine Turns.either 10 12 rfl rfl (by kernel_rfl) (by rfl) (by rfl) (fun K hK => ?_) (fun K hK => ?_)
        · go_simp
          have HN := Lib.hid (HE.out.made 9 #[.string ⟨#[115, 116, 97, 114, 116]⟩, .string (dateB T.st), .string (decB T.ah.toNat)])
          replace HE := Lib.hid (HE.out.next (below_alloc _ (.cells #[.string ⟨#[115, 116, 97, 114, 116]⟩, .string (dateB T.st), .string (decB T.ah.toNat)] 9)))
          refine hK.out _ _ (show (fun (w' : World) => w'.cell? ⟨g, 0, none⟩ = some (.int .i64 T.st) ∧ w'.cell? ⟨g, 1, none⟩ = some (.int .i64 T.ah) ∧ w'.cell? ⟨g, 2, none⟩ = some (.int .i64 T.en)) _ from HE.out.cells) ?_
          clear hK K hS
          have hS := (show (fun (w' : World) => w'.cell? ⟨g, 0, none⟩ = some (.int .i64 T.st) ∧ w'.cell? ⟨g, 1, none⟩ = some (.int .i64 T.ah) ∧ w'.cell? ⟨g, 2, none⟩ = some (.int .i64 T.en)) _ from HE.out.cells)
          obtain ⟨WE, hWE⟩ := HE.out.world
          try simp only [hWE] at HE hS ⊢
          try simp only [hWE] at HN
          clear hWE
          refine Turns.either 11 12 rfl rfl (by kernel_rfl) (by rfl) (by rfl) (fun K hK => ?_) (fun K hK => ?_)
          · go_simp
            go_at_call 24
            refine (lineOf_any _ _ 3 [startB, dateB T.st, decB T.ah.toNat] 3 rfl (words_at (show Holds _ _ _ (sts [startB, dateB T.st, decB T.ah.toNat]).toArray from HN.out)) HN.out.lt (Nat.le_refl _) (show (headB T.st T.ah).size ≤ 1000 from Nat.le_trans HHS.out (by decide)) (by simp)).mono ?_
            rintro e w11 ⟨rfl, hb⟩
            replace HE := Lib.hid (HE.out.next hb)
            clear hb HN
            refine hK.out _ _ (show (fun (w' : World) => w'.cell? ⟨g, 0, none⟩ = some (.int .i64 T.st) ∧ w'.cell? ⟨g, 1, none⟩ = some (.int .i64 T.ah) ∧ w'.cell? ⟨g, 2, none⟩ = some (.int .i64 T.en)) _ from HE.out.cells) ?_
            clear hK K hS
            have hS := (show (fun (w' : World) => w'.cell? ⟨g, 0, none⟩ = some (.int .i64 T.st) ∧ w'.cell? ⟨g, 1, none⟩ = some (.int .i64 T.ah) ∧ w'.cell? ⟨g, 2, none⟩ = some (.int .i64 T.en)) _ from HE.out.cells)
            refine Turns.next 12 rfl (by kernel_rfl) (by rfl) (fun K hK => ?_)
            go_simp
            obtain ⟨b0, hb0, hX⟩ := HE.out.nw 9 #[.string ⟨#[]⟩]
            have HX := Lib.hid hX
            try replace HX := Lib.hid (show Nw w.drew b0 9 #[.string ⟨#[]⟩] (w.alloc (.cells #[.string ⟨#[]⟩] 9)).drew from HX.out)
            try replace HN := Lib.hid (HN.out.alloc (.cells #[.string ⟨#[]⟩] 9))
            first | simp only [hb0] | (have hb1 : w.heap.size = b0 := hb0; simp only [hb1])
            clear hb0 hX
            refine hK.out _ _ (show (fun (w' : World) => w'.cell? ⟨g, 0, none⟩ = some (.int .i64 T.st) ∧ w'.cell? ⟨g, 1, none⟩ = some (.int .i64 T.ah) ∧ w'.cell? ⟨g, 2, none⟩ = some (.int .i64 T.en)) _ from (HX.out.back HE.out).cells) ?_
            clear hK K hS
            have hS := (show (fun (w' : World) => w'.cell? ⟨g, 0, none⟩ = some (.int .i64 T.st) ∧ w'.cell? ⟨g, 1, none⟩ = some (.int .i64 T.ah) ∧ w'.cell? ⟨g, 2, none⟩ = some (.int .i64 T.en)) _ from (HX.out.back HE.out).cells)
            obtain ⟨WX, hWX⟩ := HX.out.world
            try simp only [hWX] at HX hS ⊢
            try simp only [hWX] at HN
            clear hWX
            refine Turns.next 13 rfl (by kernel_rfl) (by rfl) (fun K hK => ?_)
            have x0 := HX.out.holds.cell 0
            have y0 := HX.out.holds.soft 0
            replace HX := Lib.hid (HX.out.set (.string (headB T.st T.ah)))
            go_simp
            clear x0 y0
            refine hK.out _ _ (show (fun (w' : World) => w'.cell? ⟨g, 0, none⟩ = some (.int .i64 T.st) ∧ w'.cell? ⟨g, 1, none⟩ = some (.int .i64 T.ah) ∧ w'.cell? ⟨g, 2, none⟩ = some (.int .i64 T.en)) _ from (HX.out.back HE.out).cells) ?_
            clear hK K hS
            have hS := (show (fun (w' : World) => w'.cell? ⟨g, 0, none⟩ = some (.int .i64 T.st) ∧ w'.cell? ⟨g, 1, none⟩ = some (.int .i64 T.ah) ∧ w'.cell? ⟨g, 2, none⟩ = some (.int .i64 T.en)) _ from (HX.out.back HE.out).cells)
            refine Turns.rest (late_done (by kernel_rfl)) ?_
            refine any_tail 14 (by rfl) (by kernel_rfl) ?_
            simp only [List.drop_succ_cons, List.drop_zero]
            clear hS
            go_wp2
            go_meet
            case rel => exact ⟨_, rfl, by rw [← HX.out.size]; exact HE.out.below.size, HX.out.holds, HX.out.back HE.out⟩
          · go_simp
            obtain ⟨b0, hb0, hX⟩ := HE.out.nw 9 #[.string ⟨#[]⟩]
            have HX := Lib.hid hX
            try replace HX := Lib.hid (show Nw w.drew b0 9 #[.string ⟨#[]⟩] (w.alloc (.cells #[.string ⟨#[]⟩] 9)).drew from HX.out)
            try replace HN := Lib.hid (HN.out.alloc (.cells #[.string ⟨#[]⟩] 9))
            first | simp only [hb0] | (have hb1 : w.heap.size = b0 := hb0; simp only [hb1])
            clear hb0 hX
            refine hK.out _ _ (show (fun (w' : World) => w'.cell? ⟨g, 0, none⟩ = some (.int .i64 T.st) ∧ w'.cell? ⟨g, 1, none⟩ = some (.int .i64 T.ah) ∧ w'.cell? ⟨g, 2, none⟩ = some (.int .i64 T.en)) _ from (HX.out.back HE.out).cells) ?_
            clear hK K hS
            have hS := (show (fun (w' : World) => w'.cell? ⟨g, 0, none⟩ = some (.int .i64 T.st) ∧ w'.cell? ⟨g, 1, none⟩ = some (.int .i64 T.ah) ∧ w'.cell? ⟨g, 2, none⟩ = some (.int .i64 T.en)) _ from (HX.out.back HE.out).cells)
            obtain ⟨WX, hWX⟩ := HX.out.world
            try simp only [hWX] at HX hS ⊢
            try simp only [hWX] at HN
            clear hWX
            refine Turns.next 11 rfl (by kernel_rfl) (by rfl) (fun K hK => ?_)
            go_simp
            go_at_call 24
            refine (lineOf_any _ _ 3 [startB, dateB T.st, decB T.ah.toNat] 3 rfl (words_at (show Holds _ _ _ (sts [startB, dateB T.st, decB T.ah.toNat]).toArray from HN.out)) HN.out.lt (Nat.le_refl _) (show (headB T.st T.ah).size ≤ 1000 from Nat.le_trans HHS.out (by decide)) (by simp)).mono ?_
            rintro e w11 ⟨rfl, hb⟩
            replace HX := Lib.hid (HX.out.next hb)
            clear hb HN
            refine hK.out _ _ (show (fun (w' : World) => w'.cell? ⟨g, 0, none⟩ = some (.int .i64 T.st) ∧ w'.cell? ⟨g, 1, none⟩ = some (.int .i64 T.ah) ∧ w'.cell? ⟨g, 2, none⟩ = some (.int .i64 T.en)) _ from (HX.out.back HE.out).cells) ?_
            clear hK K hS
            have hS := (show (fun (w' : World) => w'.cell? ⟨g, 0, none⟩ = some (.int .i64 T.st) ∧ w'.cell? ⟨g, 1, none⟩ = some (.int .i64 T.ah) ∧ w'.cell? ⟨g, 2, none⟩ = some (.int .i64 T.en)) _ from (HX.out.back HE.out).cells)
            refine Turns.next 13 rfl (by kernel_rfl) (by rfl) (fun K hK => ?_)
            have x0 := HX.out.holds.cell 0
            have y0 := HX.out.holds.soft 0
            replace HX := Lib.hid (HX.out.set (.string (headB T.st T.ah)))
            go_simp
            clear x0 y0
            refine hK.out _ _ (show (fun (w' : World) => w'.cell? ⟨g, 0, none⟩ = some (.int .i64 T.st) ∧ w'.cell? ⟨g, 1, none⟩ = some (.int .i64 T.ah) ∧ w'.cell? ⟨g, 2, none⟩ = some (.int .i64 T.en)) _ from (HX.out.back HE.out).cells) ?_
            clear hK K hS
            have hS := (show (fun (w' : World) => w'.cell? ⟨g, 0, none⟩ = some (.int .i64 T.st) ∧ w'.cell? ⟨g, 1, none⟩ = some (.int .i64 T.ah) ∧ w'.cell? ⟨g, 2, none⟩ = some (.int .i64 T.en)) _ from (HX.out.back HE.out).cells)
            refine Turns.rest (late_done (by kernel_rfl)) ?_
            refine any_tail 14 (by rfl) (by kernel_rfl) ?_
            simp only [List.drop_succ_cons, List.drop_zero]
            clear hS
            go_wp2
            go_meet
            case rel => exact ⟨_, rfl, by rw [← HX.out.size]; exact HE.out.below.size, HX.out.holds, HX.out.back HE.out⟩
        · go_simp
          obtain ⟨b0, hb0, hX⟩ := HE.out.nw 9 #[.string ⟨#[]⟩]
          have HX := Lib.hid hX
          try replace HX := Lib.hid (show Nw w.drew b0 9 #[.string ⟨#[]⟩] (w.alloc (.cells #[.string ⟨#[]⟩] 9)).drew from HX.out)
          try replace HN := Lib.hid (HN.out.alloc (.cells #[.string ⟨#[]⟩] 9))
          first | simp only [hb0] | (have hb1 : w.heap.size = b0 := hb0; simp only [hb1])
          clear hb0 hX
          refine hK.out _ _ (show (fun (w' : World) => w'.cell? ⟨g, 0, none⟩ = some (.int .i64 T.st) ∧ w'.cell? ⟨g, 1, none⟩ = some (.int .i64 T.ah) ∧ w'.cell? ⟨g, 2, none⟩ = some (.int .i64 T.en)) _ from (HX.out.back HE.out).cells) ?_
          clear hK K hS
          have hS := (show (fun (w' : World) => w'.cell? ⟨g, 0, none⟩ = some (.int .i64 T.st) ∧ w'.cell? ⟨g, 1, none⟩ = some (.int .i64 T.ah) ∧ w'.cell? ⟨g, 2, none⟩ = some (.int .i64 T.en)) _ from (HX.out.back HE.out).cells)
          obtain ⟨WX, hWX⟩ := HX.out.world
          try simp only [hWX] at HX hS ⊢
          try simp only [hWX] at HN
          clear hWX
          refine Turns.next 10 rfl (by kernel_rfl) (by rfl) (fun K hK => ?_)
          go_simp
          have HN := Lib.hid (HX.out.made 9 #[.string ⟨#[115, 116, 97, 114, 116]⟩, .string (dateB T.st), .string (decB T.ah.toNat)])
          replace HX := Lib.hid (HX.out.next (below_alloc _ (.cells #[.string ⟨#[115, 116, 97, 114, 116]⟩, .string (dateB T.st), .string (decB T.ah.toNat)] 9)))
          refine hK.out _ _ (show (fun (w' : World) => w'.cell? ⟨g, 0, none⟩ = some (.int .i64 T.st) ∧ w'.cell? ⟨g, 1, none⟩ = some (.int .i64 T.ah) ∧ w'.cell? ⟨g, 2, none⟩ = some (.int .i64 T.en)) _ from (HX.out.back HE.out).cells) ?_
          clear hK K hS
          have hS := (show (fun (w' : World) => w'.cell? ⟨g, 0, none⟩ = some (.int .i64 T.st) ∧ w'.cell? ⟨g, 1, none⟩ = some (.int .i64 T.ah) ∧ w'.cell? ⟨g, 2, none⟩ = some (.int .i64 T.en)) _ from (HX.out.back HE.out).cells)
          obtain ⟨WX, hWX⟩ := HX.out.world
          try simp only [hWX] at HX hS ⊢
          try simp only [hWX] at HN
          clear hWX
          refine Turns.next 11 rfl (by kernel_rfl) (by rfl) (fun K hK => ?_)
          go_simp
          go_at_call 24
          refine (lineOf_any _ _ 3 [startB, dateB T.st, decB T.ah.toNat] 3 rfl (words_at (show Holds _ _ _ (sts [startB, dateB T.st, decB T.ah.toNat]).toArray from HN.out)) HN.out.lt (Nat.le_refl _) (show (headB T.st T.ah).size ≤ 1000 from Nat.le_trans HHS.out (by decide)) (by simp)).mono ?_
          rintro e w11 ⟨rfl, hb⟩
          replace HX := Lib.hid (HX.out.next hb)
          clear hb HN
          refine hK.out _ _ (show (fun (w' : World) => w'.cell? ⟨g, 0, none⟩ = some (.int .i64 T.st) ∧ w'.cell? ⟨g, 1, none⟩ = some (.int .i64 T.ah) ∧ w'.cell? ⟨g, 2, none⟩ = some (.int .i64 T.en)) _ from (HX.out.back HE.out).cells) ?_
          clear hK K hS
          have hS := (show (fun (w' : World) => w'.cell? ⟨g, 0, none⟩ = some (.int .i64 T.st) ∧ w'.cell? ⟨g, 1, none⟩ = some (.int .i64 T.ah) ∧ w'.cell? ⟨g, 2, none⟩ = some (.int .i64 T.en)) _ from (HX.out.back HE.out).cells)
          refine Turns.next 13 rfl (by kernel_rfl) (by rfl) (fun K hK => ?_)
          have x0 := HX.out.holds.cell 0
          have y0 := HX.out.holds.soft 0
          replace HX := Lib.hid (HX.out.set (.string (headB T.st T.ah)))
          go_simp
          clear x0 y0
          refine hK.out _ _ (show (fun (w' : World) => w'.cell? ⟨g, 0, none⟩ = some (.int .i64 T.st) ∧ w'.cell? ⟨g, 1, none⟩ = some (.int .i64 T.ah) ∧ w'.cell? ⟨g, 2, none⟩ = some (.int .i64 T.en)) _ from (HX.out.back HE.out).cells) ?_
          clear hK K hS
          have hS := (show (fun (w' : World) => w'.cell? ⟨g, 0, none⟩ = some (.int .i64 T.st) ∧ w'.cell? ⟨g, 1, none⟩ = some (.int .i64 T.ah) ∧ w'.cell? ⟨g, 2, none⟩ = some (.int .i64 T.en)) _ from (HX.out.back HE.out).cells)
          refine Turns.rest (late_done (by kernel_rfl)) ?_
          refine any_tail 14 (by rfl) (by kernel_rfl) ?_
          simp only [List.drop_succ_cons, List.drop_zero]
          clear hS
          go_wp2
          go_meet
          case rel => exact ⟨_, rfl, by rw [← HX.out.size]; exact HE.out.below.size, HX.out.holds, HX.out.back HE.out⟩
      · go_simp
        obtain ⟨b0, hb0, hX⟩ := HE.out.nw 9 #[.string ⟨#[]⟩]
        have HX := Lib.hid hX
        try replace HX := Lib.hid (show Nw w.drew b0 9 #[.string ⟨#[]⟩] (w.alloc (.cells #[.string ⟨#[]⟩] 9)).drew from HX.out)
        try replace HN := Lib.hid (HN.out.alloc (.cells #[.string ⟨#[]⟩] 9))
        first | simp only [hb0] | (have hb1 : w.heap.size = b0 := hb0; simp only [hb1])
        clear hb0 hX
        refine hK.out _ _ (show (fun (w' : World) => w'.cell? ⟨g, 0, none⟩ = some (.int .i64 T.st) ∧ w'.cell? ⟨g, 1, none⟩ = some (.int .i64 T.ah) ∧ w'.cell? ⟨g, 2, none⟩ = some (.int .i64 T.en)) _ from (HX.out.back HE.out).cells) ?_
        clear hK K hS
        have hS := (show (fun (w' : World) => w'.cell? ⟨g, 0, none⟩ = some (.int .i64 T.st) ∧ w'.cell? ⟨g, 1, none⟩ = some (.int .i64 T.ah) ∧ w'.cell? ⟨g, 2, none⟩ = some (.int .i64 T.en)) _ from (HX.out.back HE.out).cells)
        obtain ⟨WX, hWX⟩ := HX.out.world
        try simp only [hWX] at HX hS ⊢
        try simp only [hWX] at HN
        clear hWX
        refine Turns.next 9 rfl (by kernel_rfl) (by rfl) (fun K hK => ?_)
        go_simp
        go_at_call 26
        refine (HIT.out _ (HX.out.back HE.out).tab).mono ?_
        rintro e w9 ⟨rfl, hb⟩
        replace HX := Lib.hid (HX.out.next hb)
        clear hb
        refine hK.out _ _ (show (fun (w' : World) => w'.cell? ⟨g, 0, none⟩ = some (.int .i64 T.st) ∧ w'.cell? ⟨g, 1, none⟩ = some (.int .i64 T.ah) ∧ w'.cell? ⟨g, 2, none⟩ = some (.int .i64 T.en)) _ from (HX.out.back HE.out).cells) ?_
        clear hK K hS
        have hS := (show (fun (w' : World) => w'.cell? ⟨g, 0, none⟩ = some (.int .i64 T.st) ∧ w'.cell? ⟨g, 1, none⟩ = some (.int .i64 T.ah) ∧ w'.cell? ⟨g, 2, none⟩ = some (.int .i64 T.en)) _ from (HX.out.back HE.out).cells)
        refine Turns.next 10 rfl (by kernel_rfl) (by rfl) (fun K hK => ?_)
        go_simp
        have HN := Lib.hid (HX.out.made 9 #[.string ⟨#[115, 116, 97, 114, 116]⟩, .string (dateB T.st), .string (decB T.ah.toNat)])
        replace HX := Lib.hid (HX.out.next (below_alloc _ (.cells #[.string ⟨#[115, 116, 97, 114, 116]⟩, .string (dateB T.st), .string (decB T.ah.toNat)] 9)))
        refine hK.out _ _ (show (fun (w' : World) => w'.cell? ⟨g, 0, none⟩ = some (.int .i64 T.st) ∧ w'.cell? ⟨g, 1, none⟩ = some (.int .i64 T.ah) ∧ w'.cell? ⟨g, 2, none⟩ = some (.int .i64 T.en)) _ from (HX.out.back HE.out).cells) ?_
        clear hK K hS
        have hS := (show (fun (w' : World) => w'.cell? ⟨g, 0, none⟩ = some (.int .i64 T.st) ∧ w'.cell? ⟨g, 1, none⟩ = some (.int .i64 T.ah) ∧ w'.cell? ⟨g, 2, none⟩ = some (.int .i64 T.en)) _ from (HX.out.back HE.out).cells)
        obtain ⟨WX, hWX⟩ := HX.out.world
        try simp only [hWX] at HX hS ⊢
        try simp only [hWX] at HN
        clear hWX
        refine Turns.next 11 rfl (by kernel_rfl) (by rfl) (fun K hK => ?_)
        go_simp
        go_at_call 24
        refine (lineOf_any _ _ 3 [startB, dateB T.st, decB T.ah.toNat] 3 rfl (words_at (show Holds _ _ _ (sts [startB, dateB T.st, decB T.ah.toNat]).toArray from HN.out)) HN.out.lt (Nat.le_refl _) (show (headB T.st T.ah).size ≤ 1000 from Nat.le_trans HHS.out (by decide)) (by simp)).mono ?_
        rintro e w11 ⟨rfl, hb⟩
        replace HX := Lib.hid (HX.out.next hb)
        clear hb HN
        refine hK.out _ _ (show (fun (w' : World) => w'.cell? ⟨g, 0, none⟩ = some (.int .i64 T.st) ∧ w'.cell? ⟨g, 1, none⟩ = some (.int .i64 T.ah) ∧ w'.cell? ⟨g, 2, none⟩ = some (.int .i64 T.en)) _ from (HX.out.back HE.out).cells) ?_
        clear hK K hS
        have hS := (show (fun (w' : World) => w'.cell? ⟨g, 0, none⟩ = some (.int .i64 T.st) ∧ w'.cell? ⟨g, 1, none⟩ = some (.int .i64 T.ah) ∧ w'.cell? ⟨g, 2, none⟩ = some (.int .i64 T.en)) _ from (HX.out.back HE.out).cells)
        refine Turns.next 13 rfl (by kernel_rfl) (by rfl) (fun K hK => ?_)
        have x0 := HX.out.holds.cell 0
        have y0 := HX.out.holds.soft 0
        replace HX := Lib.hid (HX.out.set (.string (headB T.st T.ah)))
        go_simp
        clear x0 y0
        refine hK.out _ _ (show (fun (w' : World) => w'.cell? ⟨g, 0, none⟩ = some (.int .i64 T.st) ∧ w'.cell? ⟨g, 1, none⟩ = some (.int .i64 T.ah) ∧ w'.cell? ⟨g, 2, none⟩ = some (.int .i64 T.en)) _ from (HX.out.back HE.out).cells) ?_
        clear hK K hS
        have hS := (show (fun (w' : World) => w'.cell? ⟨g, 0, none⟩ = some (.int .i64 T.st) ∧ w'.cell? ⟨g, 1, none⟩ = some (.int .i64 T.ah) ∧ w'.cell? ⟨g, 2, none⟩ = some (.int .i64 T.en)) _ from (HX.out.back HE.out).cells)
        refine Turns.rest (late_done (by kernel_rfl)) ?_
        refine any_tail 14 (by rfl) (by kernel_rfl) ?_
        simp only [List.drop_succ_cons, List.drop_zero]
        clear hS
        go_wp2
        go_meet
        case rel => exact ⟨_, rfl, by rw [← HX.out.size]; exact HE.out.below.size, HX.out.holds, HX.out.back HE.out⟩
    · go_simp
      obtain ⟨b0, hb0, hX⟩ := HE.out.nw 9 #[.string ⟨#[]⟩]
      have HX := Lib.hid hX
      try replace HX := Lib.hid (show Nw w.drew b0 9 #[.string ⟨#[]⟩] (w.alloc (.cells #[.string ⟨#[]⟩] 9)).drew from HX.out)
      try replace HN := Lib.hid (HN.out.alloc (.cells #[.string ⟨#[]⟩] 9))
      first | simp only [hb0] | (have hb1 : w.heap.size = b0 := hb0; simp only [hb1])
      clear hb0 hX
      refine hK.out _ _ (show (fun (w' : World) => w'.cell? ⟨g, 0, none⟩ = some (.int .i64 T.st) ∧ w'.cell? ⟨g, 1, none⟩ = some (.int .i64 T.ah) ∧ w'.cell? ⟨g, 2, none⟩ = some (.int .i64 T.en)) _ from (HX.out.back HE.out).cells) ?_
      clear hK K hS
      have hS := (show (fun (w' : World) => w'.cell? ⟨g, 0, none⟩ = some (.int .i64 T.st) ∧ w'.cell? ⟨g, 1, none⟩ = some (.int .i64 T.ah) ∧ w'.cell? ⟨g, 2, none⟩ = some (.int .i64 T.en)) _ from (HX.out.back HE.out).cells)
      obtain ⟨WX, hWX⟩ := HX.out.world
      try simp only [hWX] at HX hS ⊢
      try simp only [hWX] at HN
      clear hWX
      refine Turns.next 4 rfl (by kernel_rfl) (by rfl) (fun K hK => ?_)
      go_simp
      go_at_call 25
      refine (HDS.out _ (HX.out.back HE.out).tab).mono ?_
      rintro e w4 ⟨rfl, hb⟩
      replace HX := Lib.hid (HX.out.next hb)
      clear hb
      refine hK.out _ _ (show (fun (w' : World) => w'.cell? ⟨g, 0, none⟩ = some (.int .i64 T.st) ∧ w'.cell? ⟨g, 1, none⟩ = some (.int .i64 T.ah) ∧ w'.cell? ⟨g, 2, none⟩ = some (.int .i64 T.en)) _ from (HX.out.back HE.out).cells) ?_
      clear hK K hS
      have hS := (show (fun (w' : World) => w'.cell? ⟨g, 0, none⟩ = some (.int .i64 T.st) ∧ w'.cell? ⟨g, 1, none⟩ = some (.int .i64 T.ah) ∧ w'.cell? ⟨g, 2, none⟩ = some (.int .i64 T.en)) _ from (HX.out.back HE.out).cells)
      refine Turns.next 9 rfl (by kernel_rfl) (by rfl) (fun K hK => ?_)
      go_simp
      go_at_call 26
      refine (HIT.out _ (HX.out.back HE.out).tab).mono ?_
      rintro e w9 ⟨rfl, hb⟩
      replace HX := Lib.hid (HX.out.next hb)
      clear hb
      refine hK.out _ _ (show (fun (w' : World) => w'.cell? ⟨g, 0, none⟩ = some (.int .i64 T.st) ∧ w'.cell? ⟨g, 1, none⟩ = some (.int .i64 T.ah) ∧ w'.cell? ⟨g, 2, none⟩ = some (.int .i64 T.en)) _ from (HX.out.back HE.out).cells) ?_
      clear hK K hS
      have hS := (show (fun (w' : World) => w'.cell? ⟨g, 0, none⟩ = some (.int .i64 T.st) ∧ w'.cell? ⟨g, 1, none⟩ = some (.int .i64 T.ah) ∧ w'.cell? ⟨g, 2, none⟩ = some (.int .i64 T.en)) _ from (HX.out.back HE.out).cells)
      refine Turns.next 10 rfl (by kernel_rfl) (by rfl) (fun K hK => ?_)
      go_simp
      have HN := Lib.hid (HX.out.made 9 #[.string ⟨#[115, 116, 97, 114, 116]⟩, .string (dateB T.st), .string (decB T.ah.toNat)])
      replace HX := Lib.hid (HX.out.next (below_alloc _ (.cells #[.string ⟨#[115, 116, 97, 114, 116]⟩, .string (dateB T.st), .string (decB T.ah.toNat)] 9)))
      refine hK.out _ _ (show (fun (w' : World) => w'.cell? ⟨g, 0, none⟩ = some (.int .i64 T.st) ∧ w'.cell? ⟨g, 1, none⟩ = some (.int .i64 T.ah) ∧ w'.cell? ⟨g, 2, none⟩ = some (.int .i64 T.en)) _ from (HX.out.back HE.out).cells) ?_
      clear hK K hS
      have hS := (show (fun (w' : World) => w'.cell? ⟨g, 0, none⟩ = some (.int .i64 T.st) ∧ w'.cell? ⟨g, 1, none⟩ = some (.int .i64 T.ah) ∧ w'.cell? ⟨g, 2, none⟩ = some (.int .i64 T.en)) _ from (HX.out.back HE.out).cells)
      obtain ⟨WX, hWX⟩ := HX.out.world
      try simp only [hWX] at HX hS ⊢
      try simp only [hWX] at HN
      clear hWX
      refine Turns.next 11 rfl (by kernel_rfl) (by rfl) (fun K hK => ?_)
      go_simp
      go_at_call 24
      refine (lineOf_any _ _ 3 [startB, dateB T.st, decB T.ah.toNat] 3 rfl (words_at (show Holds _ _ _ (sts [startB, dateB T.st, decB T.ah.toNat]).toArray from HN.out)) HN.out.lt (Nat.le_refl _) (show (headB T.st T.ah).size ≤ 1000 from Nat.le_trans HHS.out (by decide)) (by simp)).mono ?_
      rintro e w11 ⟨rfl, hb⟩
      replace HX := Lib.hid (HX.out.next hb)
      clear hb HN
      refine hK.out _ _ (show (fun (w' : World) => w'.cell? ⟨g, 0, none⟩ = some (.int .i64 T.st) ∧ w'.cell? ⟨g, 1, none⟩ = some (.int .i64 T.ah) ∧ w'.cell? ⟨g, 2, none⟩ = some (.int .i64 T.en)) _ from (HX.out.back HE.out).cells) ?_
      clear hK K hS
      have hS := (show (fun (w' : World) => w'.cell? ⟨g, 0, none⟩ = some (.int .i64 T.st) ∧ w'.cell? ⟨g, 1, none⟩ = some (.int .i64 T.ah) ∧ w'.cell? ⟨g, 2, none⟩ = some (.int .i64 T.en)) _ from (HX.out.back HE.out).cells)
      refine Turns.next 13 rfl (by kernel_rfl) (by rfl) (fun K hK => ?_)
      have x0 := HX.out.holds.cell 0
      have y0 := HX.out.holds.soft 0
      replace HX := Lib.hid (HX.out.set (.string (headB T.st T.ah)))
      go_simp
      clear x0 y0
      refine hK.out _ _ (show (fun (w' : World) => w'.cell? ⟨g, 0, none⟩ = some (.int .i64 T.st) ∧ w'.cell? ⟨g, 1, none⟩ = some (.int .i64 T.ah) ∧ w'.cell? ⟨g, 2, none⟩ = some (.int .i64 T.en)) _ from (HX.out.back HE.out).cells) ?_
      clear hK K hS
      have hS := (show (fun (w' : World) => w'.cell? ⟨g, 0, none⟩ = some (.int .i64 T.st) ∧ w'.cell? ⟨g, 1, none⟩ = some (.int .i64 T.ah) ∧ w'.cell? ⟨g, 2, none⟩ = some (.int .i64 T.en)) _ from (HX.out.back HE.out).cells)
      refine Turns.rest (late_done (by kernel_rfl)) ?_
      refine any_tail 14 (by rfl) (by kernel_rfl) ?_
      simp only [List.drop_succ_cons, List.drop_zero]
      clear hS
      go_wp2
      go_meet
      case rel => exact ⟨_, rfl, by rw [← HX.out.size]; exact HE.out.below.size, HX.out.holds, HX.out.back HE.out⟩
  case rest =>
    obtain ⟨b, rfl, hbw, htxt, hxw⟩ := hcut
    have HE := Lib.hid hxw
    have HTX := Lib.hid htxt
    clear htxt hxw HDS HIT
    go_wp2_with (go_at_call 23; refine (all_any _ _).mono ?_; rintro e w' ⟨rfl, rfl⟩)
    have sR : w.heap.size ≤ (wc.alloc (.cells #[.pointer (some ⟨g, 0, none⟩)] 26)).heap.size := Nat.le_trans HE.out.below.size (by simp)
    have hbR : b < wc.heap.size := HTX.out.lt
    have sR1 : (wc.alloc (.cells #[.pointer (some ⟨g, 0, none⟩)] 26)).heap.size = wc.heap.size + 1 := size_alloc _ _
    have b0 : TRun w g b T [] (wc.alloc (.cells #[.pointer (some ⟨g, 0, none⟩)] 26)) := ⟨hbw, HTX.out.alloc _, HE.out.below.alloc HE.out.below.size _⟩
    have cR := (Holds.new wc 26 #[.pointer (some ⟨g, 0, none⟩)]).cell 0
    have hS := (H0.out _ b0.below).rt
    obtain ⟨WR, hWR⟩ : ∃ WR, (wc.alloc (.cells #[.pointer (some ⟨g, 0, none⟩)] 26)) = WR := ⟨_, rfl⟩
    rw [hWR] at b0 cR sR sR1 hS
    simp only [hWR]
    clear hWR
    refine (wpIn_wide (n := 4)).1 ?_
    refine range_boxed rfl (by omega) (gf := 38) (lb := #[.pointer (some ⟨wc.heap.size, 0, none⟩)]) rfl trivial (enters_of Tryd.func38 (by kernel_rfl) rfl)
      (all1_sub _ (by omega) wc.heap.size w.heap.size WR.heap.size _ T.st T.en T.lp WR hS.src cR (Nat.le_refl _)) keptO_t (fun W l o o' _ h hc hw => keptO_b W l o o' h hc hw) (fun _ _ h => keptO_below h) (Below.refl _ _) (fun _ => rfl)
      (fun (pre : List {e // e ∈ T.lp}) W => TRun w g b T (pre.map Subtype.val) W)
      (fun c pre W => False)
      (fun s W W' row hs hg hr => hs.turned hg (fun k e => (hr k e).2) (fun k e => by have := (hr k e).1; omega))
      (fun c s W W' row hs hg hr => hs)
      b0 51 (fun x => #[.int .i64 x.1.1, .int .i64 x.1.2]) ?a₁ ?assign ?body ?done ?stop
    case assign =>
      intro l y b W K hb hK
      simp only [lpA]
      have HB := Lib.hid hb
      clear hb
      gi_wp2
      simp only [HB.out]
      exact hK
    case body =>
      rintro l pre ⟨⟨x, y⟩, hmem⟩ q W hl ⟨rc, hrc⟩ hrn he hlen
      dsimp only at he ⊢
      have hxr := HL.out (x, y) hmem
      dsimp only at hxr
      have hn : pre.length ≤ 1000 := by rw [List.length_attach] at hlen; have := HFew.out; omega
      have hps : (leapsT (headB T.st T.ah) (pre.map Subtype.val)).size ≤ 20 + 19 * 1000 := by
        rw [leapsT_size _ _ (fun e he => by
          obtain ⟨z, _, rfl⟩ := List.mem_map.1 he
          exact HL.out z.1 z.2), List.length_map]
        have := HHS.out
        omega
      have hls : (leapLB (x, y)).size = 19 := leapLB_size hxr.1 hxr.2
      have HSN := Lib.hid (show leapsT (headB T.st T.ah) ((pre ++ [(⟨(x, y), hmem⟩ : {e // e ∈ T.lp})]).map Subtype.val) = leapsT (headB T.st T.ah) (pre.map Subtype.val) ++ leapLB (x, y) by rw [List.map_append]; exact leapsT_snoc _ _ _)
      have HDX := Lib.hid (fun W hW => date_any x W hxr.1 hxr.2 hW)
      have hqb : b < q ∨ q < b := by
        rcases Nat.lt_trichotomy b q with h | h | h
        · exact .inl h
        · exact absurd h (fun h => by subst h; exact (he.apart hrn.txt (by decide)) rfl)
        · exact .inr h
      have HR0 := Lib.hid hrn
      have HQ := Lib.hid he
      have HLE := Lib.hid hrn.le
      obtain ⟨P, hP⟩ : ∃ P, leapsT (headB T.st T.ah) (pre.map Subtype.val) = P := ⟨_, rfl⟩
      have HTx := Lib.hid (show Holds W.drew b 9 #[.string P] by rw [← hP]; exact hrn.txt)
      have HBl := Lib.hid (hrn.below.drew)
      have HQd := Lib.hid (show Holds W.drew q 51 #[.int .i64 x, .int .i64 y] from he)
      rw [hP] at hps HSN
      obtain ⟨LL, hLL⟩ : ∃ LL, leapLB (x, y) = LL := ⟨_, rfl⟩
      have HLB := Lib.hid (show lineB [leapB, dateB x, signB y] = LL from hLL)
      rw [hLL] at hls HSN
      have HBW := Lib.hid (show Below W.heap.size W W.drew from (Below.refl _ _).drew)
      have hcat : decide (9223372036854775807 < P.size + 19) = false := decide_eq_false (by omega)
      have hcat' : ¬ 9223372036854775807 < P.size + 19 := by omega
      have HLS := Lib.hid hls
      clear he hrn hP hlen hn hxr hLL
      gi_wp2
      refine round_turns (fun (w' : World) => w'.cell? ⟨b, 0, none⟩ = some (.string P) ∧ w'.cell? ⟨q, 0, none⟩ = some (.int .i64 x) ∧ w'.cell? ⟨q, 1, none⟩ = some (.int .i64 y)) (fun j => decide (10 ≤ j)) (by kernel_rfl) (by kernel_rfl) (by rintro ⟨_, _, h⟩; exact h) (⟨HTx.out.cell 0, HQd.out.cell 0, HQd.out.cell 1⟩) (fun hS => ?_)
      refine Turns.take hS 0 _ rfl (by kernel_rfl) (by kernel_rfl) (by kernel_rfl) (by kernel_rfl) (fun _ _ _ h => h) (by rfl) (fun w' hS' => by (try dsimp only at hS'); go_split_ands; go_simp; (try with_reducible rfl)) ?_
      simp only [Act.put, List.getElem_toArray, List.getElem_cons_succ, List.getElem_cons_zero, List.setIfInBounds_toArray, List.set_cons_zero, List.set_cons_succ]
      refine Turns.take hS 1 _ rfl (by kernel_rfl) (by kernel_rfl) (by kernel_rfl) (by kernel_rfl) (fun _ _ _ h => h) (by rfl) (fun w' hS' => by (try dsimp only at hS'); go_split_ands; go_simp; (try with_reducible rfl)) ?_
      simp only [Act.put, List.getElem_toArray, List.getElem_cons_succ, List.getElem_cons_zero, List.setIfInBounds_toArray, List.set_cons_zero, List.set_cons_succ]
      refine Turns.take hS 2 _ rfl (by kernel_rfl) (by kernel_rfl) (by kernel_rfl) (by kernel_rfl) (fun _ _ _ h => h) (by rfl) (fun w' hS' => by (try dsimp only at hS'); go_split_ands; go_simp; (try with_reducible rfl)) ?_
      simp only [Act.put, List.getElem_toArray, List.getElem_cons_succ, List.getElem_cons_zero, List.setIfInBounds_toArray, List.set_cons_zero, List.set_cons_succ]
      refine Turns.take hS 4 _ rfl (by kernel_rfl) (by kernel_rfl) (by kernel_rfl) (by kernel_rfl) (fun _ _ _ h => h) (by rfl) (fun w' hS' => by (try dsimp only at hS'); go_split_ands; go_simp; (try with_reducible rfl)) ?_
      simp only [Act.put, List.getElem_toArray, List.getElem_cons_succ, List.getElem_cons_zero, List.setIfInBounds_toArray, List.set_cons_zero, List.set_cons_succ]
      refine Turns.take hS 5 _ rfl (by kernel_rfl) (by kernel_rfl) (by kernel_rfl) (by kernel_rfl) (fun _ _ _ h => h) (by rfl) (fun w' hS' => by (try dsimp only at hS'); go_split_ands; go_simp; (try with_reducible rfl)) ?_
      simp only [Act.put, List.getElem_toArray, List.getElem_cons_succ, List.getElem_cons_zero, List.setIfInBounds_toArray, List.set_cons_zero, List.set_cons_succ]
      refine Turns.next 3 rfl (by kernel_rfl) (by rfl) (fun K hK => ?_)
      go_simp
      go_at_call 25
      refine (HDX.out _ (H0.out _ HBl.out).tab).mono ?_
      rintro e w3 ⟨rfl, hb⟩
      replace HTx := Lib.hid (HTx.out.below hb HTx.out.lt)
      replace HQd := Lib.hid (HQd.out.below hb HQd.out.lt)
      replace HBl := Lib.hid (HBl.out.trans (hb.mono HBl.out.size))
      replace HBW := Lib.hid (HBW.out.trans (hb.mono HBW.out.size))
      clear hb
      refine hK.out _ _ (show (fun (w' : World) => w'.cell? ⟨b, 0, none⟩ = some (.string P) ∧ w'.cell? ⟨q, 0, none⟩ = some (.int .i64 x) ∧ w'.cell? ⟨q, 1, none⟩ = some (.int .i64 y)) _ from ⟨HTx.out.cell 0, HQd.out.cell 0, HQd.out.cell 1⟩) ?_
      clear hK K hS
      have hS := (show (fun (w' : World) => w'.cell? ⟨b, 0, none⟩ = some (.string P) ∧ w'.cell? ⟨q, 0, none⟩ = some (.int .i64 x) ∧ w'.cell? ⟨q, 1, none⟩ = some (.int .i64 y)) _ from ⟨HTx.out.cell 0, HQd.out.cell 0, HQd.out.cell 1⟩)
      refine Turns.next 6 rfl (by kernel_rfl) (by rfl) (fun K hK => ?_)
      go_simp
      go_at_call 27
      refine (sign_any _ _).mono ?_
      rintro e w6 ⟨rfl, hw6⟩
      replace hw6 := hw6.symm
      subst hw6
      refine hK.out _ _ (show (fun (w' : World) => w'.cell? ⟨b, 0, none⟩ = some (.string P) ∧ w'.cell? ⟨q, 0, none⟩ = some (.int .i64 x) ∧ w'.cell? ⟨q, 1, none⟩ = some (.int .i64 y)) _ from ⟨HTx.out.cell 0, HQd.out.cell 0, HQd.out.cell 1⟩) ?_
      clear hK K hS
      have hS := (show (fun (w' : World) => w'.cell? ⟨b, 0, none⟩ = some (.string P) ∧ w'.cell? ⟨q, 0, none⟩ = some (.int .i64 x) ∧ w'.cell? ⟨q, 1, none⟩ = some (.int .i64 y)) _ from ⟨HTx.out.cell 0, HQd.out.cell 0, HQd.out.cell 1⟩)
      refine Turns.next 7 rfl (by kernel_rfl) (by rfl) (fun K hK => ?_)
      go_simp
      have hb := below_alloc w3 (.cells #[.string ⟨#[108, 101, 97, 112]⟩, .string (dateB x), .string (signB y)] 9)
      have HN := Lib.hid (Holds.new w3 9 #[.string ⟨#[108, 101, 97, 112]⟩, .string (dateB x), .string (signB y)])
      replace HTx := Lib.hid (HTx.out.below hb HTx.out.lt)
      replace HQd := Lib.hid (HQd.out.below hb HQd.out.lt)
      replace HBl := Lib.hid (HBl.out.trans (hb.mono HBl.out.size))
      replace HBW := Lib.hid (HBW.out.trans (hb.mono HBW.out.size))
      clear hb
      refine hK.out _ _ (show (fun (w' : World) => w'.cell? ⟨b, 0, none⟩ = some (.string P) ∧ w'.cell? ⟨q, 0, none⟩ = some (.int .i64 x) ∧ w'.cell? ⟨q, 1, none⟩ = some (.int .i64 y)) _ from ⟨HTx.out.cell 0, HQd.out.cell 0, HQd.out.cell 1⟩) ?_
      clear hK K hS
      have hS := (show (fun (w' : World) => w'.cell? ⟨b, 0, none⟩ = some (.string P) ∧ w'.cell? ⟨q, 0, none⟩ = some (.int .i64 x) ∧ w'.cell? ⟨q, 1, none⟩ = some (.int .i64 y)) _ from ⟨HTx.out.cell 0, HQd.out.cell 0, HQd.out.cell 1⟩)
      refine Turns.next 8 rfl (by kernel_rfl) (by rfl) (fun K hK => ?_)
      go_simp
      go_at_call 24
      refine (lineOf_any _ _ 3 [leapB, dateB x, signB y] 3 rfl (words_at (show Holds _ _ _ (sts [leapB, dateB x, signB y]).toArray from HN.out)) HN.out.lt (Nat.le_refl _) (by rw [HLB.out, HLS.out]; decide) (by simp)).mono ?_
      rintro e w8 ⟨rfl, hb⟩
      rw [HLB.out]
      replace HTx := Lib.hid (HTx.out.below hb HTx.out.lt)
      replace HQd := Lib.hid (HQd.out.below hb HQd.out.lt)
      replace HBl := Lib.hid (HBl.out.trans (hb.mono HBl.out.size))
      replace HBW := Lib.hid (HBW.out.trans (hb.mono HBW.out.size))
      clear hb HN
      refine hK.out _ _ (show (fun (w' : World) => w'.cell? ⟨b, 0, none⟩ = some (.string P) ∧ w'.cell? ⟨q, 0, none⟩ = some (.int .i64 x) ∧ w'.cell? ⟨q, 1, none⟩ = some (.int .i64 y)) _ from ⟨HTx.out.cell 0, HQd.out.cell 0, HQd.out.cell 1⟩) ?_
      clear hK K hS
      have hS := (show (fun (w' : World) => w'.cell? ⟨b, 0, none⟩ = some (.string P) ∧ w'.cell? ⟨q, 0, none⟩ = some (.int .i64 x) ∧ w'.cell? ⟨q, 1, none⟩ = some (.int .i64 y)) _ from ⟨HTx.out.cell 0, HQd.out.cell 0, HQd.out.cell 1⟩)
      refine Turns.take hS 9 _ rfl (by kernel_rfl) (by kernel_rfl) (by kernel_rfl) (by kernel_rfl) (fun _ _ _ h => h) (by rfl) (fun w' hS' => by (try dsimp only at hS'); go_split_ands; go_simp; (try with_reducible rfl)) ?_
      simp only [Act.put, List.getElem_toArray, List.getElem_cons_succ, List.getElem_cons_zero, List.setIfInBounds_toArray, List.set_cons_zero, List.set_cons_succ]
      refine Turns.rest (late_done (by kernel_rfl)) ?_
      refine any_tail 10 (by rfl) (by kernel_rfl) ?_
      simp only [List.drop_succ_cons, List.drop_zero]
      clear hS
      have c0 := HTx.out.cell 0
      have f0 := HTx.out.soft 0
      have hch := Chg.set (S := fun k => k = b) w8 b 0 (.string (P ++ LL)) rfl
      have HK := Lib.hid (keptO_t (keptO_below HBW.out) (keptO_chg (a := w.heap.size) (n := WR.heap.size) hch (fun k hk => by have := HLE.out; omega)))
      have HO := Lib.hid (show KeepsFrom WR.heap.size W (w8.setCell ⟨b, 0, none⟩ (.string (P ++ LL))) from ((others_of_below HBW.out).trans (KeepsOthers.setCell w8 ⟨b, 0, none⟩ (.string (P ++ LL)))).from _)
      have HR := Lib.hid (show TRun w g b T ((pre ++ [(⟨(x, y), hmem⟩ : {e // e ∈ T.lp})]).map Subtype.val) (w8.setCell ⟨b, 0, none⟩ (.string (P ++ LL))) from ⟨HLE.out, by rw [HSN.out]; exact HTx.out.put 0 _, HBl.out.setCell HLE.out _⟩)
      clear hch
      go_wp2
      gi_wp2
      exact ⟨HO.out, HK.out, HR.out⟩
    case done =>
      rintro D ys W hD rfl hrn hDk
      rw [List.attach_map_subtype_val] at hrn
      have hn : T.lp.length ≤ 1000 := HFew.out
      have hps : (leapsT (headB T.st T.ah) T.lp).size ≤ 20 + 19 * 1000 := by
        rw [leapsT_size _ _ (fun e he => HL.out e he)]
        have := HHS.out
        omega
      have hes := HES.out
      have HZ := Lib.hid (show leapsT (headB T.st T.ah) T.lp ++ endLB T.en = textT T from rfl)
      obtain ⟨P, hP⟩ : ∃ P, leapsT (headB T.st T.ah) T.lp = P := ⟨_, rfl⟩
      have HTx := Lib.hid (show Holds W.drew b 9 #[.string P] by rw [← hP]; exact hrn.txt)
      have HBl := Lib.hid (hrn.below.drew)
      rw [hP] at hps HZ
      obtain ⟨LL, hLL⟩ : ∃ LL, endLB T.en = LL := ⟨_, rfl⟩
      have HLB := Lib.hid (show lineB [endB, dateB T.en] = LL from hLL)
      rw [hLL] at hes HZ
      have hcat : decide (9223372036854775807 < P.size + LL.size) = false := decide_eq_false (by omega)
      have hcat' : ¬ 9223372036854775807 < P.size + LL.size := by omega
      have HLS := Lib.hid (show LL.size ≤ 1000 by omega)
      have HDl := Lib.hid (show D < W.drew.heap.size from (Array.getElem?_eq_some_iff.1 hDk).1)
      have HDk := Lib.hid (show W.drew.heap[D]? = some (.deferred (some [])) from hDk)
      clear hrn hP hn hps hes hLL hDk
      gi_wp2
      go_upto_region 7 with (fail)
      refine (wpIn_wide (n := 4)).1 (wpIn_normal (wpIn_wide.2 ?_))
      refine region_turns (fun (w' : World) => w'.cell? ⟨b, 0, none⟩ = some (.string P) ∧ w'.cell? ⟨g, 2, none⟩ = some (.int .i64 T.en)) (fun j => decide (10 ≤ j)) (by kernel_rfl) (⟨HTx.out.cell 0, (H0.out _ HBl.out).cells.2.2⟩) (fun hS => ?_)
      refine Turns.take hS 0 _ rfl (by kernel_rfl) (by kernel_rfl) (by kernel_rfl) (by kernel_rfl) (fun _ _ _ h => h) (by rfl) (fun w' hS' => by (try dsimp only at hS'); go_split_ands; go_simp; (try with_reducible rfl)) ?_
      simp only [Act.put, List.getElem_toArray, List.getElem_cons_succ, List.getElem_cons_zero, List.setIfInBounds_toArray, List.set_cons_zero, List.set_cons_succ]
      refine Turns.take hS 1 _ rfl (by kernel_rfl) (by kernel_rfl) (by kernel_rfl) (by kernel_rfl) (fun _ _ _ h => h) (by rfl) (fun w' hS' => by (try dsimp only at hS'); go_split_ands; go_simp; (try with_reducible rfl)) ?_
      simp only [Act.put, List.getElem_toArray, List.getElem_cons_succ, List.getElem_cons_zero, List.setIfInBounds_toArray, List.set_cons_zero, List.set_cons_succ]
      refine Turns.take hS 2 _ rfl (by kernel_rfl) (by kernel_rfl) (by kernel_rfl) (by kernel_rfl) (fun _ _ _ h => h) (by rfl) (fun w' hS' => by (try dsimp only at hS'); go_split_ands; go_simp; (try with_reducible rfl)) ?_
      simp only [Act.put, List.getElem_toArray, List.getElem_cons_succ, List.getElem_cons_zero, List.setIfInBounds_toArray, List.set_cons_zero, List.set_cons_succ]
      refine Turns.take hS 3 _ rfl (by kernel_rfl) (by kernel_rfl) (by kernel_rfl) (by kernel_rfl) (fun _ _ _ h => h) (by rfl) (fun w' hS' => by (try dsimp only at hS'); go_split_ands; go_simp; (try with_reducible rfl)) ?_
      simp only [Act.put, List.getElem_toArray, List.getElem_cons_succ, List.getElem_cons_zero, List.setIfInBounds_toArray, List.set_cons_zero, List.set_cons_succ]
      refine Turns.take hS 4 _ rfl (by kernel_rfl) (by kernel_rfl) (by kernel_rfl) (by kernel_rfl) (fun _ _ _ h => h) (by rfl) (fun w' hS' => by (try dsimp only at hS'); go_split_ands; go_simp; (try with_reducible rfl)) ?_
      simp only [Act.put, List.getElem_toArray, List.getElem_cons_succ, List.getElem_cons_zero, List.setIfInBounds_toArray, List.set_cons_zero, List.set_cons_succ]
      refine Turns.next 5 rfl (by kernel_rfl) (by rfl) (fun K hK => ?_)
      go_simp
      go_at_call 25
      refine (HDE.out _ (H0.out _ HBl.out).tab).mono ?_
      rintro e w3 ⟨rfl, hb⟩
      replace HTx := Lib.hid (HTx.out.below hb HTx.out.lt)
      replace HBl := Lib.hid (HBl.out.trans (hb.mono HBl.out.size))
      replace HDk := Lib.hid ((hb.block _ HDl.out).trans HDk.out)
      replace HDl := Lib.hid (Nat.lt_of_lt_of_le HDl.out hb.size)
      clear hb
      refine hK.out _ _ (show (fun (w' : World) => w'.cell? ⟨b, 0, none⟩ = some (.string P) ∧ w'.cell? ⟨g, 2, none⟩ = some (.int .i64 T.en)) _ from ⟨HTx.out.cell 0, (H0.out _ HBl.out).cells.2.2⟩) ?_
      clear hK K hS
      have hS := (show (fun (w' : World) => w'.cell? ⟨b, 0, none⟩ = some (.string P) ∧ w'.cell? ⟨g, 2, none⟩ = some (.int .i64 T.en)) _ from ⟨HTx.out.cell 0, (H0.out _ HBl.out).cells.2.2⟩)
      refine Turns.next 6 rfl (by kernel_rfl) (by rfl) (fun K hK => ?_)
      go_simp
      have hb := below_alloc w3 (.cells #[.string ⟨#[101, 110, 100]⟩, .string (dateB T.en)] 9)
      have HN := Lib.hid (Holds.new w3 9 #[.string ⟨#[101, 110, 100]⟩, .string (dateB T.en)])
      replace HTx := Lib.hid (HTx.out.below hb HTx.out.lt)
      replace HBl := Lib.hid (HBl.out.trans (hb.mono HBl.out.size))
      replace HDk := Lib.hid ((hb.block _ HDl.out).trans HDk.out)
      replace HDl := Lib.hid (Nat.lt_of_lt_of_le HDl.out hb.size)
      clear hb
      refine hK.out _ _ (show (fun (w' : World) => w'.cell? ⟨b, 0, none⟩ = some (.string P) ∧ w'.cell? ⟨g, 2, none⟩ = some (.int .i64 T.en)) _ from ⟨HTx.out.cell 0, (H0.out _ HBl.out).cells.2.2⟩) ?_
      clear hK K hS
      have hS := (show (fun (w' : World) => w'.cell? ⟨b, 0, none⟩ = some (.string P) ∧ w'.cell? ⟨g, 2, none⟩ = some (.int .i64 T.en)) _ from ⟨HTx.out.cell 0, (H0.out _ HBl.out).cells.2.2⟩)
      refine Turns.next 7 rfl (by kernel_rfl) (by rfl) (fun K hK => ?_)
      go_simp
      go_at_call 24
      refine (lineOf_any _ _ 2 [endB, dateB T.en] 2 rfl (words_at (show Holds _ _ _ (sts [endB, dateB T.en]).toArray from HN.out)) HN.out.lt (Nat.le_refl _) (by rw [HLB.out]; exact HLS.out) (by simp)).mono ?_
      rintro e w8 ⟨rfl, hb⟩
      rw [HLB.out]
      replace HTx := Lib.hid (HTx.out.below hb HTx.out.lt)
      replace HBl := Lib.hid (HBl.out.trans (hb.mono HBl.out.size))
      replace HDk := Lib.hid ((hb.block _ HDl.out).trans HDk.out)
      replace HDl := Lib.hid (Nat.lt_of_lt_of_le HDl.out hb.size)
      clear hb HN
      refine hK.out _ _ (show (fun (w' : World) => w'.cell? ⟨b, 0, none⟩ = some (.string P) ∧ w'.cell? ⟨g, 2, none⟩ = some (.int .i64 T.en)) _ from ⟨HTx.out.cell 0, (H0.out _ HBl.out).cells.2.2⟩) ?_
      clear hK K hS
      have hS := (show (fun (w' : World) => w'.cell? ⟨b, 0, none⟩ = some (.string P) ∧ w'.cell? ⟨g, 2, none⟩ = some (.int .i64 T.en)) _ from ⟨HTx.out.cell 0, (H0.out _ HBl.out).cells.2.2⟩)
      refine Turns.take hS 8 _ rfl (by kernel_rfl) (by kernel_rfl) (by kernel_rfl) (by kernel_rfl) (fun _ _ _ h => h) (by rfl) (fun w' hS' => by (try dsimp only at hS'); go_split_ands; go_simp; (try with_reducible rfl)) ?_
      simp only [Act.put, List.getElem_toArray, List.getElem_cons_succ, List.getElem_cons_zero, List.setIfInBounds_toArray, List.set_cons_zero, List.set_cons_succ]
      refine Turns.take hS 9 _ rfl (by kernel_rfl) (by kernel_rfl) (by kernel_rfl) (by kernel_rfl) (fun _ _ _ h => h) (by rfl) (fun w' hS' => by (try dsimp only at hS'); go_split_ands; go_simp; (try with_reducible rfl)) ?_
      simp only [Act.put, List.getElem_toArray, List.getElem_cons_succ, List.getElem_cons_zero, List.setIfInBounds_toArray, List.set_cons_zero, List.set_cons_succ]
      refine Turns.rest (late_done (by kernel_rfl)) ?_
      refine any_tail 10 (by rfl) (by kernel_rfl) ?_
      simp only [List.drop_succ_cons, List.drop_zero]
      clear hS
      go_wp2
      refine text_leaves HBl.out (Nat.le_trans sR (by omega)) HDk.out (by simp [HZ.out])
    case stop =>
      rintro D c pre W hD hpre hf hDk
      exact hf.elim
end Go.Proofs.YtiglhmdiiajmhaaDoor
