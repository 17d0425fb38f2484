/- Package flood: a node, how it lies in memory; Good of rules, what is known. -/
import Derived.Test.YtgmeakcfiaopcaaGreatFlA
import Derived.Test.YtgmeakcfiaopcaaGreatBunF
import Derived.Deep.RegionWith
namespace Go.Proofs.YtgmeakcfiaopcaaGreat
open Go.RowKit
set_option linter.unusedVariables false
set_option linter.unusedSimpArgs false

def preV (g : Nat) (f : FS) : List Value := [.pointer (some ⟨g, 0, none⟩), .int .i64 f.s.me, .int .i64 f.s.tmo, .int .i64 f.s.ign, .int .i64 f.need, .int .i64 f.drift]
def ptV (l g h : Int) : List Value := [.int .i64 l, .int .i64 g, .int .i64 h]
/-- A node that floods, at block gf; whose time it goes by, at block g, what it knows of roots, at block b. -/
structure Fo (w : World) (B gf g b n : Nat) (f : FS) : Prop where
  node : En w B g b n f.s
  newer : B ≤ gf
  tab : Tb w gf 6 89 (preV g f) (ptV f.pl f.pg f.ph) f.L
/-- The blocks of a node. -/
def fpart (gf g b : Nat) : Nat → Prop := fun k => k = gf ∨ k = g ∨ k = b
/-- What becomes of a node: nothing else changes, and its blocks are those that it had, or new. -/
def FGoes (B gf g b n : Nat) (f : FS) (w w' : World) : Prop := ∃ b', Fo w' B gf g b' n f ∧ Chg (fpart gf g b) w w' ∧ (b' = b ∨ w.heap.size ≤ b')
section
variable {pre post : List Value} {K : List Ent} {n : Int} {o : Nat}
theorem tcs_post (hK : K.length = 8) (ho : pre.length = o) (j : Nat) : (tcs pre post K n)[o + 25 + j]? = post[j]? := by
  unfold tcs
  have h1 : (trs K ++ [Value.int .i64 n]).length = 25 := tcs_mid hK
  rw [List.getElem?_append_right (by omega), List.getElem?_append_right (by omega), h1, ho]
  congr 1
  omega
theorem tcs_pre (ho : pre.length = o) {j : Nat} (hj : j < o) : (tcs pre post K n)[j]? = pre[j]? := by
  unfold tcs
  rw [List.getElem?_append_left (by omega)]
theorem tcs_behind (hK : K.length = 8) (ho : pre.length = o) {new : List Value} (hn : new.length = post.length) : splice (tcs pre post K n) (o + 25) new = tcs pre new K n := by
  unfold tcs
  have h1 : (trs K ++ [Value.int .i64 n]).length = 25 := tcs_mid hK
  have h2 := splice_mid (pre ++ (trs K ++ [Value.int .i64 n])) post [] new 0 (by omega)
  simp only [List.append_nil, Nat.add_zero, List.append_assoc, List.length_append, ho] at h2
  rw [splice_all post new hn] at h2
  simp only [List.append_nil, List.append_assoc, List.length_append] at h1 h2 ⊢
  rw [show o + 25 = o + ((trs K).length + [Value.int IntKind.i64 n].length) by omega]
  exact h2
end
section
variable {w w' : World} {B gf g b n : Nat} {f : FS}
theorem Fo.lt (h : Fo w B gf g b n f) : gf < w.heap.size := h.tab.lt
theorem Fo.ne (h : Fo w B gf g b n f) : gf ≠ g ∧ gf ≠ b := by
  obtain ⟨K, hT⟩ := h.tab
  exact ⟨hT.holds.apart h.node.holds (by decide), h.node.km.apart hT.holds⟩
theorem Fo.chg {S : Nat → Prop} (h : Fo w B gf g b n f) (hc : Chg S w w') (hn : ∀ k, fpart gf g b k → ¬ S k) : Fo w' B gf g b n f :=
  ⟨h.node.chg hc (fun k hk => hn k (.inr hk)), h.newer, h.tab.chg hc (hn gf (.inl rfl))⟩
theorem Fo.below (h : Fo w B gf g b n f) (hb : Below w.heap.size w w') : Fo w' B gf g b n f := h.chg (Chg.of_below (fun _ => False) hb) (fun _ _ h => h)
theorem Fo.drewN (h : Fo w B gf g b n f) (m : Nat) : Fo (w.drewN m) B gf g b n f := h.below (below_drewN (Below.refl _ _) m)
theorem Fo.mono (h : Fo w B gf g b n f) {n' : Nat} (hn : n ≤ n') : Fo w B gf g b n' f := ⟨h.node.mono hn, h.newer, h.tab⟩
theorem Fo.at (h : Fo w B gf g b n f) {B' : Nat} (h0 : B' ≤ B) : Fo w B' gf g b n f := ⟨h.node.at (Nat.le_trans h0 h.node.newer.1) (Nat.le_trans h0 h.node.newer.2), Nat.le_trans h0 h.newer, h.tab⟩
/-- The cells of a node. -/
theorem Fo.cells (h : Fo w B gf g b n f) : w.cell? ⟨gf, 0, none⟩ = some (.pointer (some ⟨g, 0, none⟩)) ∧ w.cell? ⟨gf, 1, none⟩ = some (.int .i64 f.s.me) ∧ w.cell? ⟨gf, 4, none⟩ = some (.int .i64 f.need) ∧ w.cell? ⟨gf, 5, none⟩ = some (.int .i64 f.drift) ∧
    w.cell? ⟨gf, 31, none⟩ = some (.int .i64 f.pl) ∧ w.cell? ⟨gf, 32, none⟩ = some (.int .i64 f.pg) ∧ w.cell? ⟨gf, 33, none⟩ = some (.int .i64 f.ph) := by
  obtain ⟨K, hT⟩ := h.tab
  have e := hT.eight
  have key : ∀ j, w.cell? ⟨gf, j, none⟩ = (tcs (preV g f) (ptV f.pl f.pg f.ph) K f.L.length)[j]? := fun j => by rw [hT.holds.cell, List.getElem?_toArray]
  rw [key, key, key, key, key, key, key]
  exact ⟨tcs_pre (o := 6) rfl (by omega), tcs_pre (o := 6) rfl (by omega), tcs_pre (o := 6) rfl (by omega), tcs_pre (o := 6) rfl (by omega), tcs_post (o := 6) e rfl 0, tcs_post (o := 6) e rfl 1, tcs_post (o := 6) e rfl 2⟩
theorem Fo.point (h : Fo w B gf g b n f) : ∀ j v, (ptV f.pl f.pg f.ph)[j]? = some v → w.cell? ⟨gf, 31 + j, none⟩ = some v := fun j v hv => by
  obtain ⟨K, hT⟩ := h.tab
  rw [hT.holds.cell, List.getElem?_toArray]
  exact (tcs_post (o := 6) hT.eight rfl j).trans hv
theorem FGoes.of_below (h : FGoes B gf g b n f w w') {u : World} (hb : Below w'.heap.size w' u) : FGoes B gf g b n f w u := by
  obtain ⟨b', ht, hc, hp⟩ := h
  exact ⟨b', ht.below hb, hc.trans (Chg.of_below (fun _ => False) hb) (fun _ _ h => h.elim), hp⟩
theorem FGoes.after {u : World} (hb : Below w.heap.size w u) (h : FGoes B gf g b n f u w') : FGoes B gf g b n f w w' := by
  obtain ⟨b', ht, hc, hp⟩ := h
  exact ⟨b', ht, (Chg.of_below (fpart gf g b) hb).trans hc (fun _ _ h => h), hp.imp id (fun h => Nat.le_trans hb.size h)⟩
theorem FGoes.refl (h : Fo w B gf g b n f) : FGoes B gf g b n f w w := ⟨b, h, Chg.refl _ _, .inl rfl⟩
theorem FGoes.mono (h : FGoes B gf g b n f w w') {n' : Nat} (hn : n ≤ n') : FGoes B gf g b n' f w w' := by
  obtain ⟨b', ht, hc, hp⟩ := h
  exact ⟨b', ht.mono hn, hc, hp⟩
/-- One call behind another. -/
theorem FGoes.trans {n1 n2 b1 : Nat} {f1 f2 : FS} {u : World} (h1 : Fo u B gf g b1 n1 f1) (hc : Chg (fpart gf g b) w u) (hp : b1 = b ∨ w.heap.size ≤ b1) (h2 : FGoes B gf g b1 n2 f2 u w') (hw : w.heap.size ≤ u.heap.size) : FGoes B gf g b n2 f2 w w' := by
  obtain ⟨b', ht, hc2, hp2⟩ := h2
  refine ⟨b', ht, hc.trans hc2 (fun k hk hk2 => ?_), ?_⟩
  · rcases hk2 with e | e | e
    · exact .inl e
    · exact .inr (.inl e)
    · rcases hp with k1 | k1
      · exact .inr (.inr (e.trans k1))
      · omega
  · rcases hp2 with k2 | k2
    · rw [k2]
      exact hp
    · exact .inr (Nat.le_trans hw k2)
/-- Whose time it goes by made a step. -/
theorem Fo.node_goes {n' : Nat} {s' : St} (h : Fo w B gf g b n f) (hg : Goes B g b n' s' w w') (hs : s'.me = f.s.me ∧ s'.tmo = f.s.tmo ∧ s'.ign = f.s.ign) : FGoes B gf g b n' (f.at s') w w' := by
  obtain ⟨b', h1, h2, h3⟩ := hg
  obtain ⟨n1, n2⟩ := h.ne
  refine ⟨b', ⟨h1, h.newer, ?_⟩, h2.mono (fun k _ hk => .inr hk), h3⟩
  have ht := h.tab.chg h2 (fun hk => hk.elim n1 n2)
  have e : preV g (f.at s') = preV g f := by
    unfold preV FS.at
    simp only [hs.1, hs.2.1, hs.2.2]
  rw [e]
  exact ht
/-- Its table made a step. -/
theorem Fo.tab_goes {L' : List Ent} (h : Fo w B gf g b n f) (ht : Tb w' gf 6 89 (preV g f) (ptV f.pl f.pg f.ph) L') (hc : Chg (fun k => k = gf) w w') : FGoes B gf g b n { f with L := L' } w w' := by
  obtain ⟨n1, n2⟩ := h.ne
  exact ⟨b, ⟨h.node.chg hc (fun k hk e => by cases e; exact hk.elim n1 n2), h.newer, ht⟩, hc.mono (fun k _ hk => .inl hk), .inl rfl⟩
/-- Its point is written. -/
theorem Fo.put (h : Fo w B gf g b n f) (l x y : Int) : ∃ cur : List Value, Holds w gf 89 cur.toArray ∧ 31 + (ptV l x y).length ≤ cur.length ∧ FGoes B gf g b n { f with pl := l, pg := x, ph := y } w (w.setRow gf (splice cur 31 (ptV l x y)).toArray) := by
  obtain ⟨K, hT⟩ := h.tab
  obtain ⟨n1, n2⟩ := h.ne
  have hr := hT.holds.row (splice (tcs (preV g f) (ptV f.pl f.pg f.ph) K f.L.length) 31 (ptV l x y)).toArray
  have hc : Chg (fun k => k = gf) w (w.setRow gf (splice (tcs (preV g f) (ptV f.pl f.pg f.ph) K f.L.length) 31 (ptV l x y)).toArray) := Chg.of_grown (grown_row w gf _) (fun k e => by cases e; rfl)
  refine ⟨_, hT.holds, ?_, b, ⟨h.node.chg hc (fun k hk e => by cases e; exact hk.elim n1 n2), h.newer, K, rfl, hT.eight, hT.le, hT.is, ?_⟩, hc.mono (fun k _ hk => .inl hk), .inl rfl⟩
  · rw [tcs_len (o := 6) hT.eight rfl]
    exact Nat.le_refl _
  · have e := tcs_behind (o := 6) (n := f.L.length) (pre := preV g f) (post := ptV f.pl f.pg f.ph) (new := ptV l x y) hT.eight rfl rfl
    rw [e] at hr ⊢
    exact hr
end
theorem hear_rules (s : St) (r x q : Int) : (hearS s r x q).me = s.me ∧ (hearS s r x q).tmo = s.tmo ∧ (hearS s r x q).ign = s.ign := by unfold hearS; split <;> exact ⟨rfl, rfl, rfl⟩
theorem beat_rules (s : St) : (beatS s).me = s.me ∧ (beatS s).tmo = s.tmo ∧ (beatS s).ign = s.ign := by
  unfold beatS
  split
  · exact ⟨rfl, rfl, rfl⟩
  · split <;> exact ⟨rfl, rfl, rfl⟩
theorem issue_rules (s : St) : (issueS s).me = s.me ∧ (issueS s).tmo = s.tmo ∧ (issueS s).ign = s.ign := by unfold issueS; split <;> exact ⟨rfl, rfl, rfl⟩
theorem ftime_any (t : Int) (w : World) : Calls Tryz.prog 31 #[.int .i64 t] w fun e w' => e = .returned (.bool (timeB t)) ∧ w = w' := by
  by_cases h1 : 0 ≤ t
  · have d1 : decide (0 ≤ t) = true := decide_eq_true h1
    by_cases h2 : t ≤ 1125899906842624
    · have d2 : decide (t ≤ 1125899906842624) = true := decide_eq_true h2
      have e : timeB t = true := decide_eq_true ⟨h1, h2⟩
      rw [e]
      clear e
      go_enter Tryz.func31, Tryz.ntmps31
      go_wp2
      go_ret
      exact ⟨rfl, rfl⟩
    · have d2 : decide (t ≤ 1125899906842624) = false := decide_eq_false h2
      have e : timeB t = false := decide_eq_false (fun k => h2 k.2)
      rw [e]
      clear e
      go_enter Tryz.func31, Tryz.ntmps31
      go_wp2
      go_ret
      exact ⟨rfl, rfl⟩
  · have d1 : decide (0 ≤ t) = false := decide_eq_false h1
    have e : timeB t = false := decide_eq_false (fun k => h1 k.1)
    rw [e]
    clear e
    go_enter Tryz.func31, Tryz.ntmps31
    go_wp2
    go_ret
    exact ⟨rfl, rfl⟩
/-- Can there be such rules? -/
def frulesB (tmo ign need drift : Int) : Bool := rulesB tmo ign && decide (1 ≤ need ∧ need ≤ 8 ∧ 0 ≤ drift ∧ drift ≤ 10)
theorem frules_any (w : World) (tmo ign need drift : Int) : Calls Tryz.prog 24 #[.agg #[.int .i64 tmo, .int .i64 ign, .int .i64 need, .int .i64 drift]] w fun e w' => e = .returned (.bool (frulesB tmo ign need drift)) ∧ Below w.heap.size w w' := by
  have HB := Lib.hid (Box.start w 37 #[.int .i64 tmo, .int .i64 ign, .int .i64 need, .int .i64 drift])
  have hru := fun W => rules_any W tmo ign
  unfold frulesB
  obtain ⟨R, hR⟩ : ∃ R, rulesB tmo ign = R := ⟨_, rfl⟩
  simp only [hR] at hru ⊢
  clear hR
  obtain ⟨d, e, hd⟩ : ∃ d, decide (1 ≤ need ∧ need ≤ 8 ∧ 0 ≤ drift ∧ drift ≤ 10) = d ∧ (decide (1 ≤ need) = false ∧ d = false ∨ decide (1 ≤ need) = true ∧ decide (need ≤ 8) = false ∧ d = false ∨
      decide (1 ≤ need) = true ∧ decide (need ≤ 8) = true ∧ decide (0 ≤ drift) = false ∧ d = false ∨ decide (1 ≤ need) = true ∧ decide (need ≤ 8) = true ∧ decide (0 ≤ drift) = true ∧ decide (drift ≤ 10) = d) := by
    refine ⟨_, rfl, ?_⟩
    by_cases h1 : 1 ≤ need <;> by_cases h2 : need ≤ 8 <;> by_cases h3 : 0 ≤ drift <;> by_cases h4 : drift ≤ 10 <;> simp [h1, h2, h3, h4]
  rw [e]
  clear e
  cases R with
  | false =>
    clear hd
    go_enter Tryz.func24, Tryz.ntmps24
    go_wp2_with (go_at_call 52; refine (hru _).mono ?_; rintro e w2 ⟨rfl, hb2⟩; replace HB := Lib.hid (HB.out.next hb2); have c2 := HB.out.holds.cell 2; have c3 := HB.out.holds.cell 3)
    go_ret
    exact ⟨rfl, HB.out.below⟩
  | true =>
    rcases hd with ⟨h1, rfl⟩ | ⟨h1, h2, rfl⟩ | ⟨h1, h2, h3, rfl⟩ | ⟨h1, h2, h3, h4⟩
    all_goals
      go_enter Tryz.func24, Tryz.ntmps24
      go_wp2_with (go_at_call 52; refine (hru _).mono ?_; rintro e w2 ⟨rfl, hb2⟩; replace HB := Lib.hid (HB.out.next hb2); have c2 := HB.out.holds.cell 2; have c3 := HB.out.holds.cell 3)
      go_ret
      exact ⟨rfl, HB.out.below⟩
theorem entries_any (w : World) (B gf g b n : Nat) (f : FS) (h : Fo w B gf g b n f) : Calls Tryz.prog 54 #[.pointer (some ⟨gf, 0, none⟩)] w fun e w' => e = .returned (.int .i64 f.L.length) ∧ w = w' := by
  have hl := len_any w gf 6 _ _ _ _ h.tab
  clear h
  go_enter Tryz.func54, Tryz.ntmps54
  go_wp2_with (go_at_call 69; refine hl.mono ?_; rintro e wx ⟨rfl, hwx⟩; subst wx)
  go_ret
  exact ⟨rfl, rfl⟩
theorem entries_nil (w : World) : Calls Tryz.prog 54 #[.pointer none] w fun e w' => e = .returned (.int .i64 0) ∧ w = w' := by
  go_enter Tryz.func54, Tryz.ntmps54
  go_wp2
  go_ret
  exact ⟨rfl, rfl⟩
theorem fdrew_two (w : World) (a b : Nat) : (w.drewN a).drewN b = w.drewN (a + b) := by simp [World.drewN, Nat.add_assoc]
theorem fdrew_drew (w : World) (a b c : Nat) : (w.drewN (a + b)).drewN c = w.drewN (a + (b + c)) := by simp [World.drewN, Nat.add_assoc]
theorem synced_nil (w : World) : Calls Tryz.prog 26 #[.pointer none] w fun e w' => e = .returned (.bool false) ∧ ∃ nq, w' = w.drewN nq := by
  go_enter Tryz.func26, Tryz.ntmps26
  go_wp2
  go_quiet (fail)
  go_wp2
  go_ret
  exact ⟨rfl, _, rfl⟩
theorem synced_any (w : World) (B gf g b n : Nat) (f : FS) (h : Fo w B gf g b n f) : Calls Tryz.prog 26 #[.pointer (some ⟨gf, 0, none⟩)] w fun e w' => e = .returned (.bool (synB f)) ∧ ∃ nq, w' = w.drewN nq := by
  obtain ⟨c0, c1, c4, c5, _⟩ := h.cells
  have hm := fun m => emine_any (w.drewN m) B g b n f.s (h.drewN m).node
  have he := fun m => entries_any (w.drewN m) B gf g b n f (h.drewN m)
  have hsyn : synB f = true ∧ decide (f.s.root = f.s.me) = true ∨ decide (f.s.root = f.s.me) = false ∧ decide (f.need ≤ (f.L.length : Int)) = synB f := by
    unfold synB
    by_cases e : f.s.root = f.s.me <;> simp [e]
  obtain ⟨m, hmm⟩ : ∃ m, decide (f.s.root = f.s.me) = m := ⟨_, rfl⟩
  obtain ⟨V, hV⟩ : ∃ V, synB f = V := ⟨_, rfl⟩
  obtain ⟨N, hN⟩ : ∃ N : Int, (f.L.length : Int) = N := ⟨_, rfl⟩
  simp only [hmm, hV, hN] at hm he hsyn ⊢
  clear hmm hV hN h
  rcases hsyn with ⟨rfl, rfl⟩ | ⟨rfl, d⟩
  · go_enter Tryz.func26, Tryz.ntmps26
    go_wp2
    go_quiet ((go_at_call 40; refine (hm _).mono ?_; rintro e wx ⟨rfl, nq, rfl⟩; first | exact ⟨rfl, _, rfl⟩ | exact ⟨rfl, _, fdrew_two _ _ _⟩ | exact ⟨rfl, _, fdrew_drew _ _ _ _⟩))
    go_wp2
    go_ret
    exact ⟨rfl, _, rfl⟩
  · go_enter Tryz.func26, Tryz.ntmps26
    go_wp2
    go_quiet (first
      | (go_at_call 40; refine (hm _).mono ?_; rintro e wx ⟨rfl, nq, rfl⟩; first | exact ⟨rfl, _, rfl⟩ | exact ⟨rfl, _, fdrew_two _ _ _⟩ | exact ⟨rfl, _, fdrew_drew _ _ _ _⟩)
      | (go_at_call 54; refine (he _).mono ?_; rintro e wx ⟨rfl, rfl⟩; exact ⟨rfl, _, rfl⟩))
    go_wp2
    go_ret
    exact ⟨rfl, _, rfl⟩
end Go.Proofs.YtgmeakcfiaopcaaGreat
