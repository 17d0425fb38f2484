/- Package leap: the document's Parse: what holds between two lines. -/
import Derived.Test.YtiglhmdiiajmhaaDoorLpQ
import Derived.Test.YtiglhmdiiajmhaaDoorLpS
import Derived.Test.YtiglhmdiiajmhaaDoorLpT
namespace Go.Proofs.YtiglhmdiiajmhaaDoor
open Go.RowKit Go.Shelf
set_option linter.unusedVariables false
set_option linter.unusedSimpArgs false
attribute [local go_sem] Oper.semAt_some

/-- What the document's Parse answers. -/
def RPost (s : ByteArray) (w : World) (e : Ending) (w' : World) : Prop :=
  ((∃ T A c, parseR s = .ok T ∧ e = .returned (.tuple #[.agg #[.int .i64 T.st, .int .i64 T.ah, .int .i64 T.en, .slice A T.lp.length c], .int .i64 0, .int .i64 0]) ∧ PRow w' A T.lp.length c T.lp) ∨ (∃ (n : Nat) (c : Int), parseR s = .error (n, c) ∧ e = .returned (.tuple #[.agg #[.int .i64 0, .int .i64 0, .int .i64 0, .slice none 0 0], .int .i64 (n : Int), .int .i64 c]))) ∧ Below w.heap.size w w'
/-- Between two lines. -/
structure DRun (w : World) (BL b : Nat) (cur : List Value) (T : TB) (A : Option Addr) (c : Nat) (W : World) : Prop where
  res : Holds W w.heap.size 24 #[.int .i64 0, .int .i64 0, .int .i64 0, .slice none 0 0]
  tab : Holds W (w.heap.size + 1) 24 #[.int .i64 T.st, .int .i64 T.ah, .int .i64 T.en, .slice A T.lp.length c]
  own : W.ownsRow BL 50 2 (.slice A T.lp.length c) T.lp.length (prs T.lp)
  lns : Holds W b 9 cur.toArray
  hb : w.heap.size + 2 ≤ b
  hB : b < BL
  base : BL ≤ W.heap.size
  old : Below w.heap.size w W
section
variable {w W W' : World} {BL b : Nat} {cur : List Value} {T : TB} {A : Option Addr} {c : Nat}
theorem DRun.next (h : DRun w BL b cur T A c W) (hb : Below W.heap.size W W') : DRun w BL b cur T A c W' :=
  ⟨h.res.below hb h.res.lt, h.tab.below hb h.tab.lt, own_keepK h.own hb, h.lns.below hb h.lns.lt, h.hb, h.hB, Nat.le_trans h.base hb.size, h.old.trans (hb.mono h.old.size)⟩
/-- A field is written. -/
theorem DRun.put (h : DRun w BL b cur T A c W) (i : Nat) (v : Value) (T' : TB) (hl : T'.lp = T.lp)
    (hv : ∀ x : Value, (#[.int .i64 T.st, .int .i64 T.ah, .int .i64 T.en, x] : Array Value).setIfInBounds i v = #[.int .i64 T'.st, .int .i64 T'.ah, .int .i64 T'.en, x]) : DRun w BL b cur T' A c (W.setCell ⟨w.heap.size + 1, i, none⟩ v) := by
  have h1 := h.tab
  have h2 := h.own
  have hch := Chg.set (S := fun k => k = w.heap.size + 1) W (w.heap.size + 1) i v rfl
  have h3 := h1.put i v
  rw [hv] at h3
  refine ⟨h.res.far (by omega) _, by rw [hl]; exact h3, by rw [hl]; exact own_chg h2 hch (fun q hq e => by have := (h2.lt q hq).1; have := h.hb; have := h.hB; omega), h.lns.far (by have := h.hb; omega) _, h.hb, h.hB, by simpa using h.base, h.old.setCell (p := ⟨w.heap.size + 1, i, none⟩) (by show w.heap.size ≤ w.heap.size + 1; omega) _⟩
/-- A leap was appended. -/
theorem DRun.push (h : DRun w BL b cur T A c W) (hbl : Below BL W W') (A' : Option Addr) (c' : Nat) (d y : Int) (ho : W'.ownsRow BL 50 2 (.slice A' (T.lp.length + 1) c') (T.lp.length + 1) (prs T.lp ++ [.int .i64 d, .int .i64 y])) :
    DRun w BL b cur ⟨T.st, T.ah, T.en, T.lp ++ [(d, y)]⟩ A' c' (W'.setCell ⟨w.heap.size + 1, 3, none⟩ (.slice A' (T.lp.length + 1) c')) := by
  have h1 := h.tab
  have hb1 := h.hb
  have hb2 := h.hB
  have k1 : Holds W' (w.heap.size + 1) _ _ := h1.below hbl (by omega)
  have hch := Chg.set (S := fun k => k = w.heap.size + 1) W' (w.heap.size + 1) 3 (.slice A' (T.lp.length + 1) c') rfl
  have hlen : (T.lp ++ [(d, y)]).length = T.lp.length + 1 := by simp
  have hp : prs (T.lp ++ [(d, y)]) = prs T.lp ++ [.int .i64 d, .int .i64 y] := by rw [prs_append]; rfl
  refine ⟨(h.res.below hbl (by omega)).far (by omega) _, by dsimp only; rw [hlen]; exact k1.put 3 _, by dsimp only; rw [hlen, hp]; exact own_chg ho hch (fun q hq e => by have := (ho.lt q hq).1; omega), (h.lns.below hbl (by omega)).far (by omega) _, h.hb, h.hB, by have := hbl.size; have := h.base; simp; omega, (h.old.trans (hbl.mono (by omega))).setCell (p := ⟨w.heap.size + 1, 3, none⟩) (by show w.heap.size ≤ w.heap.size + 1; omega) _⟩
/-- The result is wiped. -/
def wipe (g : Nat) (W : World) : World := (((W.setCell ⟨g, 0, none⟩ (.int .i64 0)).setCell ⟨g, 1, none⟩ (.int .i64 0)).setCell ⟨g, 2, none⟩ (.int .i64 0)).setCell ⟨g, 3, none⟩ (.slice none 0 0)
theorem DRun.wiped (h : DRun w BL b cur T A c W) : Holds (wipe w.heap.size W) w.heap.size 24 #[.int .i64 0, .int .i64 0, .int .i64 0, .slice none 0 0] ∧ Below w.heap.size w (wipe w.heap.size W) :=
  ⟨(((h.res.put 0 (.int .i64 0)).put 1 (.int .i64 0)).put 2 (.int .i64 0)).put 3 (.slice none 0 0), (((h.old.setCell (p := ⟨w.heap.size, 0, none⟩) (Nat.le_refl _) _).setCell (p := ⟨w.heap.size, 1, none⟩) (Nat.le_refl _) _).setCell (p := ⟨w.heap.size, 2, none⟩) (Nat.le_refl _) _).setCell (p := ⟨w.heap.size, 3, none⟩) (Nat.le_refl _) _⟩
theorem DRun.facts (h : DRun w BL b cur T A c W) : W.cell? ⟨w.heap.size + 1, 0, none⟩ = some (.int .i64 T.st) ∧ W.cell? ⟨w.heap.size + 1, 1, none⟩ = some (.int .i64 T.ah) ∧ W.cell? ⟨w.heap.size + 1, 2, none⟩ = some (.int .i64 T.en) ∧ W.cell? ⟨w.heap.size + 1, 3, none⟩ = some (.slice A T.lp.length c) ∧
    W.frozen? ⟨w.heap.size + 1, 0, none⟩ = false ∧ W.frozen? ⟨w.heap.size + 1, 1, none⟩ = false ∧ W.frozen? ⟨w.heap.size + 1, 2, none⟩ = false ∧ W.frozen? ⟨w.heap.size + 1, 3, none⟩ = false ∧
    W.cell? ⟨w.heap.size, 0, none⟩ = some (.int .i64 0) ∧ W.cell? ⟨w.heap.size, 1, none⟩ = some (.int .i64 0) ∧ W.cell? ⟨w.heap.size, 2, none⟩ = some (.int .i64 0) ∧ W.cell? ⟨w.heap.size, 3, none⟩ = some (.slice none 0 0) ∧
    W.frozen? ⟨w.heap.size, 0, none⟩ = false ∧ W.frozen? ⟨w.heap.size, 1, none⟩ = false ∧ W.frozen? ⟨w.heap.size, 2, none⟩ = false ∧ W.frozen? ⟨w.heap.size, 3, none⟩ = false :=
  ⟨h.tab.cell 0, h.tab.cell 1, h.tab.cell 2, h.tab.cell 3, h.tab.soft 0, h.tab.soft 1, h.tab.soft 2, h.tab.soft 3, h.res.cell 0, h.res.cell 1, h.res.cell 2, h.res.cell 3, h.res.soft 0, h.res.soft 1, h.res.soft 2, h.res.soft 3⟩
end
/-- What a line's words tell, class by class. -/
theorem line_short {s : Nat} {T : TB} {ws : List ByteArray} (h : ws.length ≤ 1) : lineR s T ws = .error 3 := by
  match ws, h with
  | [], _ =>
    unfold lineR startR leapR endR
    split
    · rfl
    · split
      · split <;> rfl
      · rfl
  | [a], _ =>
    unfold lineR startR leapR endR
    split
    · rfl
    · split
      · split <;> rfl
      · rfl
theorem line_noday {s : Nat} {T : TB} {ws : List ByteArray} {y : ByteArray} (h : ws[1]? = some y) (hd : dayOf y = none) : lineR s T ws = .error 3 := by
  match ws, h with
  | [a, b], h =>
    obtain rfl : b = y := by simpa using h
    unfold lineR startR leapR endR
    simp only [hd]
    repeat' split
    all_goals rfl
  | [a, b, e], h =>
    obtain rfl : b = y := by simpa using h
    unfold lineR startR leapR endR
    simp only [hd]
    repeat' split
    all_goals rfl
  | a :: b :: e :: f :: r, h =>
    unfold lineR startR leapR endR
    split
    · rfl
    · split
      · split <;> rfl
      · rfl
theorem line_two {T : TB} {ws : List ByteArray} : lineR 2 T ws = .error 3 := rfl
theorem line_start_len {T : TB} {ws : List ByteArray} (h : ¬ ws.length = 3) : lineR 0 T ws = .error 3 := by
  match ws, h with
  | [], _ => rfl
  | [a], _ => rfl
  | [a, b], _ => rfl
  | [a, b, c], h => exact absurd rfl h
  | a :: b :: c :: d :: r, _ => rfl
theorem three_of {ws : List ByteArray} {x y z : ByteArray} (hl : ws.length = 3) (h0 : ws[0]? = some x) (h1 : ws[1]? = some y) (h2 : ws[2]? = some z) : ws = [x, y, z] := by
  match ws, hl with
  | [a, b, c], _ =>
    simp at h0 h1 h2
    rw [h0, h1, h2]
theorem two_of {ws : List ByteArray} {x y : ByteArray} (hl : ws.length = 2) (h0 : ws[0]? = some x) (h1 : ws[1]? = some y) : ws = [x, y] := by
  match ws, hl with
  | [a, b], _ =>
    simp at h0 h1
    rw [h0, h1]
theorem line_start3 {T : TB} {x y z : ByteArray} {d : Int} (hd : dayOf y = some d) : lineR 0 T [x, y, z] = if x = startB then (match smallOf z with | some n => .ok (1, ⟨d, n, T.en, T.lp⟩) | none => .error 3) else .error 3 := by
  unfold lineR startR
  rw [if_pos rfl]
  by_cases h : x = startB
  · simp only [if_pos h, hd]
    cases smallOf z <;> rfl
  · simp only [if_neg h]
    rfl
theorem line_leap_len {T : TB} {ws : List ByteArray} {x : ByteArray} (h0 : ws[0]? = some x) (hx : x = leapB) (h : ¬ ws.length = 3) : lineR 1 T ws = .error 3 := by
  subst hx
  match ws, h, h0 with
  | [a], _, h0 => obtain rfl : a = leapB := by simpa using h0
                  rfl
  | [a, b], _, h0 => obtain rfl : a = leapB := by simpa using h0
                     rfl
  | [a, b, c], h, _ => exact absurd rfl h
  | a :: b :: c :: d :: r, _, h0 => obtain rfl : a = leapB := by simpa using h0
                                    rfl
theorem line_leap3 {T : TB} {y z : ByteArray} {d : Int} (hd : dayOf y = some d) : lineR 1 T [leapB, y, z] = match stepOf z with
    | none => .error 3
    | some n => if 64 ≤ T.lp.length then .error 6 else if takesB T.st T.lp d then .ok (1, ⟨T.st, T.ah, T.en, T.lp ++ [(d, n)]⟩) else .error 12 := by
  unfold lineR leapR
  rw [if_neg (by decide), if_pos rfl, if_pos (show [leapB, y, z].head? = some leapB from rfl)]
  simp only [if_true, hd]
  cases stepOf z with
  | none => rfl
  | some n =>
    dsimp only
    split
    · rfl
    · split <;> rfl
theorem line_end_bad {T : TB} {ws : List ByteArray} {x : ByteArray} (h0 : ws[0]? = some x) (hx : ¬ x = leapB) (h : ¬ ws.length = 2 ∨ ¬ x = endB) : lineR 1 T ws = .error 3 := by
  have hh : ¬ ws.head? = some leapB := by
    rw [List.head?_eq_getElem?, h0]
    intro e
    exact hx (Option.some.inj e)
  unfold lineR
  rw [if_neg (by decide), if_pos rfl, if_neg hh]
  match ws, h0, h with
  | [], h0, _ => cases h0
  | [a], _, _ => rfl
  | [a, b], h0, h =>
    obtain rfl : a = x := by simpa using h0
    have he : ¬ a = endB := h.resolve_left (fun k => k rfl)
    unfold endR
    simp only [if_neg he]
    rfl
  | a :: b :: c :: r, _, _ => rfl
theorem line_end2 {T : TB} {y : ByteArray} {d : Int} (hd : dayOf y = some d) : lineR 1 T [endB, y] = if T.st < d ∧ takesB T.st T.lp d = true then .ok (2, ⟨T.st, T.ah, d, T.lp⟩) else .error 12 := by
  unfold lineR endR
  rw [if_neg (by decide), if_pos rfl, if_neg (show ¬ [endB, y].head? = some leapB by simp only [List.head?_cons]; decide)]
  simp only [if_true, hd]
  split <;> rfl
theorem walk_bad {s k : Nat} {T : TB} {l : ByteArray} {ls : List ByteArray} {c : Int} (hs : skipB l = false) (h : lineR s T (pcs 32 l) = .error c) : walkR s T (l :: ls) k = .error (k + 1, c) := by
  rw [walkR_cons, if_neg (by rw [hs]; decide), h]
theorem walk_good {s s' k : Nat} {T T' : TB} {l : ByteArray} {ls : List ByteArray} (hs : skipB l = false) (h : lineR s T (pcs 32 l) = .ok (s', T')) : walkR s T (l :: ls) k = walkR s' T' ls (k + 1) := by
  rw [walkR_cons, if_neg (by rw [hs]; decide), h]
theorem walk_skip {s k : Nat} {T : TB} {l : ByteArray} {ls : List ByteArray} (hs : skipB l = true) : walkR s T (l :: ls) k = walkR s T ls (k + 1) := by
  rw [walkR_cons, if_pos hs]
theorem rres_out {W : World} {g : Nat} {a b c d v3 v4 : Value} (h : Holds W g 24 #[a, b, c, d]) (ha : a.oneCell' = true) (hb : b.oneCell' = true) (hc : c.oneCell' = true) (hd : d.oneCell' = true) (tmps : Array Value) (h2 : tmps.getD 2 undef = .pointer (some ⟨g, 0, none⟩)) (h3 : tmps.getD 3 undef = v3) (h4 : tmps.getD 4 undef = v4) :
    (results Tryd.f20 tmps).run Tryd.prog W = .ok (.tuple #[.agg #[a, b, c, d], v3, v4]) W := by
  have c0 := h.cell 0
  have c1 := h.cell 1
  have c2 := h.cell 2
  have c3 := h.cell 3
  have h2' : tmps[2]?.getD undef = .pointer (some ⟨g, 0, none⟩) := by simpa using h2
  have h3' : tmps[3]?.getD undef = v3 := by simpa using h3
  have h4' : tmps[4]?.getD undef = v4 := by simpa using h4
  simp [results, Tryd.f20, go_sem, c0, c1, c2, c3, h2', h3', h4']
set_option maxRecDepth 100000 in
theorem rread_long (s : ByteArray) (w : World) (hl : 16384 < s.size) : Calls Tryd.prog 20 #[.string s] w (RPost s w) := by
  have h1 : (16384 : Int) < (s.size : Int) := by omega
  have hp : parseR s = .error (0, 5) := by unfold parseR; rw [if_pos hl]
  have HB := Lib.hid (Box.start w 24 #[.int .i64 0, .int .i64 0, .int .i64 0, .slice none 0 0])
  have HP := Lib.hid hp
  have c0 := HB.out.holds.cell 0
  have c1 := HB.out.holds.cell 1
  have c2 := HB.out.holds.cell 2
  have c3 := HB.out.holds.cell 3
  have f0 := HB.out.holds.soft 0
  have f1 := HB.out.holds.soft 1
  have f2 := HB.out.holds.soft 2
  have f3 := HB.out.holds.soft 3
  clear hp hl
  go_enter Tryd.func20, Tryd.ntmps20
  go_wp2
  refine bodyPost_ret (rres_out HB.out.holds rfl rfl rfl rfl _ rfl rfl rfl) rfl ?_
  exact ⟨.inr ⟨0, 5, HP.out, rfl⟩, HB.out.below⟩
end Go.Proofs.YtiglhmdiiajmhaaDoor
