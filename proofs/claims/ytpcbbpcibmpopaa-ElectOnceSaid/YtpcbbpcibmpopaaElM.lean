/- A law's own two arrays: of which roots a mark was taken, and which. -/
import Derived.Test.YtpcbbpcibmpopaaElL
import Derived.Test.YtpcbbpcibmpopaaElI
namespace Go.Proofs.Ytpcbbpcibmpopaa
open Go.RowKit
set_option linter.unusedVariables false
set_option linter.unusedSimpArgs false

def lastZ : List Value := List.replicate 128 (.int .u16 0)
def knownZ : List Value := List.replicate 64 (.bool false)
theorem zero_last (w : World) : (zeroValue 53).run Try.prog w = .ok (.agg lastZ.toArray) w := by kernel_rfl
theorem zero_known (w : World) : (zeroValue 45).run Try.prog w = .ok (.agg knownZ.toArray) w := by kernel_rfl
theorem build_known (w : World) : (Instr.build 45 #[]).run Try.prog w = .ok (.agg knownZ.toArray) w := by kernel_rfl
theorem knownZ_len : knownZ.length = 64 := by simp [knownZ]
theorem knownZ_one : ∀ v ∈ knownZ, v.oneCell' = true := by decide +kernel
theorem known_size : (Try.prog.info? 45).map (·.size) = some 64 := by kernel_rfl
/-- The two arrays tell f. -/
structure Ar (wr : World) (gl gk : Nat) (f : Int → Option (Int × Int)) : Prop where
  kn : ∃ cs : List Value, Holds wr gk 45 cs.toArray ∧ cs.length = 64 ∧ ∀ i : Nat, i < 64 → cs[i]? = some (.bool (f i).isSome)
  la : ∃ ds : List Value, Holds wr gl 53 ds.toArray ∧ ds.length = 128 ∧ ∀ i : Nat, i < 64 → ∃ p : Int × Int, ds[i * 2]? = some (.int .u16 p.1) ∧ ds[i * 2 + 1]? = some (.int .u16 p.2) ∧ ∀ q, f i = some q → p = q
section
variable {wr w' : World} {gl gk : Nat} {f : Int → Option (Int × Int)}
theorem Ar.chg {S : Nat → Prop} (h : Ar wr gl gk f) (hc : Chg S wr w') (h1 : ¬ S gl) (h2 : ¬ S gk) : Ar w' gl gk f := by
  obtain ⟨⟨cs, a1, a2⟩, ⟨ds, b1, b2⟩⟩ := h
  exact ⟨⟨cs, a1.chg hc h2, a2⟩, ⟨ds, b1.chg hc h1, b2⟩⟩
theorem Ar.below (h : Ar wr gl gk f) (hb : Below wr.heap.size wr w') : Ar w' gl gk f := h.chg (Chg.of_below (fun _ => False) hb) (fun h => h) (fun h => h)
theorem Ar.lt (h : Ar wr gl gk f) : gl < wr.heap.size ∧ gk < wr.heap.size := by
  obtain ⟨⟨cs, a1, a2⟩, ⟨ds, b1, b2⟩⟩ := h
  exact ⟨b1.lt, a1.lt⟩
theorem Ar.ne (h : Ar wr gl gk f) : gl ≠ gk := by
  obtain ⟨⟨cs, a1, a2⟩, ⟨ds, b1, b2⟩⟩ := h
  exact b1.apart a1 (by decide)
theorem Ar.far {b i : Nat} (h : Ar wr gl gk f) (h1 : gl ≠ b) (h2 : gk ≠ b) (u : Value) : Ar (wr.setCell ⟨b, i, none⟩ u) gl gk f :=
  h.chg (Chg.set wr b i u (S := fun k => k = b) rfl) h1 h2
theorem Ar.at (h : Ar wr gl gk f) {i : Nat} (hi : i < 64) : wr.cell? ⟨gk, i, none⟩ = some (.bool (f i).isSome) ∧ wr.frozen? ⟨gk, i, none⟩ = false ∧ ∃ p : Int × Int, wr.cell? ⟨gl, i * 2, none⟩ = some (.int .u16 p.1) ∧ wr.cell? ⟨gl, i * 2 + 1, none⟩ = some (.int .u16 p.2) ∧ wr.frozen? ⟨gl, i * 2, none⟩ = false ∧ wr.frozen? ⟨gl, i * 2 + 1, none⟩ = false ∧ ∀ q, f i = some q → p = q := by
  obtain ⟨⟨cs, a1, a2, a3⟩, ⟨ds, b1, b2, b3⟩⟩ := h
  obtain ⟨p, c1, c2, c3⟩ := b3 i hi
  refine ⟨by rw [a1.cell, List.getElem?_toArray]; exact a3 i hi, a1.soft _, p, by rw [b1.cell, List.getElem?_toArray]; exact c1, by rw [b1.cell, List.getElem?_toArray]; exact c2, b1.soft _, b1.soft _, c3⟩
/-- A mark is taken. -/
theorem Ar.take (h : Ar wr gl gk f) {i : Nat} (hi : i < 64) (x q : Int) : Ar (((wr.setCell ⟨gk, i, none⟩ (.bool true)).setCell ⟨gl, i * 2, none⟩ (.int .u16 x)).setCell ⟨gl, i * 2 + 1, none⟩ (.int .u16 q)) gl gk (fun j => if j = (i : Int) then some (x, q) else f j) := by
  have hne := h.ne
  obtain ⟨⟨cs, a1, a2, a3⟩, ⟨ds, b1, b2, b3⟩⟩ := h
  refine ⟨⟨cs.set i (.bool true), ?_, by simp [a2], fun j hj => ?_⟩, ⟨(ds.set (i * 2) (.int .u16 x)).set (i * 2 + 1) (.int .u16 q), ?_, by simp [b2], fun j hj => ?_⟩⟩
  · have := ((a1.put i (.bool true)).far hne.symm (i := i * 2) (.int .u16 x)).far hne.symm (i := i * 2 + 1) (.int .u16 q)
    rw [List.setIfInBounds_toArray] at this
    exact this
  · by_cases e : j = i
    · subst e
      rw [List.getElem?_set_self (by omega)]
      simp
    · rw [List.getElem?_set_ne (by omega), if_neg (by omega)]
      exact a3 j hj
  · have := ((b1.far hne (i := i) (.bool true)).put (i * 2) (.int .u16 x)).put (i * 2 + 1) (.int .u16 q)
    rw [List.setIfInBounds_toArray, List.setIfInBounds_toArray] at this
    exact this
  · by_cases e : j = i
    · subst e
      refine ⟨(x, q), ?_, ?_, fun y hy => ?_⟩
      · rw [List.getElem?_set_ne (by omega), List.getElem?_set_self (by omega)]
      · rw [List.getElem?_set_self (by simp; omega)]
      · simpa using hy
    · obtain ⟨p, c1, c2, c3⟩ := b3 j hj
      rw [if_neg (by omega)]
      refine ⟨p, ?_, ?_, c3⟩
      · rw [List.getElem?_set_ne (by omega), List.getElem?_set_ne (by omega)]
        exact c1
      · rw [List.getElem?_set_ne (by omega), List.getElem?_set_ne (by omega)]
        exact c2
/-- All is forgotten. -/
theorem Ar.wipe (h : Ar wr gl gk f) : ∃ cur : List Value, Holds wr gk 45 cur.toArray ∧ 0 + knownZ.length ≤ cur.length ∧ Ar (wr.setRow gk (splice cur 0 knownZ).toArray) gl gk (fun _ => none) := by
  have hne := h.ne
  obtain ⟨⟨cs, a1, a2, a3⟩, ⟨ds, b1, b2, b3⟩⟩ := h
  refine ⟨cs, a1, by rw [knownZ_len]; omega, ?_⟩
  rw [splice_all _ _ (by rw [knownZ_len, a2])]
  refine ⟨⟨knownZ, a1.row _, knownZ_len, fun i hi => ?_⟩, ⟨ds, b1.grown (grown_row wr gk _) (by simpa using hne), b2, fun i hi => ?_⟩⟩
  · unfold knownZ
    rw [List.getElem?_replicate, if_pos hi]
    rfl
  · obtain ⟨p, c1, c2, c3⟩ := b3 i hi
    exact ⟨p, c1, c2, fun q hq => by cases hq⟩
end
theorem Ar.new (w : World) : Ar ((w.alloc (.cells lastZ.toArray 53)).alloc (.cells knownZ.toArray 45)) w.heap.size (w.heap.size + 1) (fun _ => none) := by
  have hk := Holds.new (w.alloc (.cells lastZ.toArray 53)) 45 knownZ.toArray
  rw [size_alloc] at hk
  refine ⟨⟨knownZ, hk, knownZ_len, fun i hi => ?_⟩, ⟨lastZ, (Holds.new w _ _).alloc _, by simp [lastZ], fun i hi => ⟨(0, 0), ?_, ?_, fun q hq => by cases hq⟩⟩⟩
  · unfold knownZ
    rw [List.getElem?_replicate, if_pos hi]
    rfl
  · unfold lastZ
    rw [List.getElem?_replicate, if_pos (by omega)]
  · unfold lastZ
    rw [List.getElem?_replicate, if_pos (by omega)]
section
variable {w wr w' : World} {t e : Int} {g b n gl gk : Nat} {s : St} {f : Int → Option (Int × Int)}
theorem Lw.chg {S : Nat → Prop} (h : Lw w wr t e g b n s) (hc : Chg S wr w') (hS : ∀ k, S k → w.heap.size + 1 ≤ k) (h1 : ¬ S g) (h2 : ¬ S b) : Lw w w' t e g b n s :=
  ⟨h.box.chg hc hS, h.node.chg hc (fun k hk => hk.elim (fun e => e ▸ h1) (fun e => e ▸ h2))⟩
theorem Ar.sep (hA : Ar wr gl gk f) (h : Lw w wr t e g b n s) : gl ≠ g ∧ gk ≠ g ∧ gl ≠ b ∧ gk ≠ b := by
  obtain ⟨⟨cs, a1, _⟩, ⟨ds, b1, _⟩⟩ := hA
  exact ⟨b1.apart h.node.holds (by decide), a1.apart h.node.holds (by decide), h.node.km.apart b1, h.node.km.apart a1⟩
/-- The node made a step: the arrays stay. -/
theorem Ar.step (hA : Ar wr gl gk f) (h : Lw w wr t e g b n s) (hc : Chg (part g b) wr w') : Ar w' gl gk f := by
  obtain ⟨h1, h2, h3, h4⟩ := hA.sep h
  exact hA.chg hc (fun e => e.elim h1 h3) (fun e => e.elim h2 h4)
/-- A mark is taken: the node stays. -/
theorem Lw.take (h : Lw w wr t e g b n s) (hA : Ar wr gl gk f) (hl : w.heap.size + 1 ≤ gl) (hk : w.heap.size + 1 ≤ gk) (i j : Nat) (u v x : Value) : Lw w (((wr.setCell ⟨gk, i, none⟩ u).setCell ⟨gl, j, none⟩ v).setCell ⟨gl, j + 1, none⟩ x) t e g b n s := by
  obtain ⟨h1, h2, h3, h4⟩ := hA.sep h
  refine h.chg (S := fun k => k = gl ∨ k = gk) (((Chg.set wr gk i u (S := fun k => k = gl ∨ k = gk) (.inr rfl)).trans (Chg.set _ gl j v (S := fun k => k = gl ∨ k = gk) (.inl rfl)) (fun _ _ h => h)).trans (Chg.set _ gl (j + 1) x (S := fun k => k = gl ∨ k = gk) (.inl rfl)) (fun _ _ h => h)) (fun k hk' => ?_) (fun e => ?_) (fun e => ?_)
  · rcases hk' with rfl | rfl <;> assumption
  · rcases e with e | e
    · exact h1 e.symm
    · exact h2 e.symm
  · rcases e with e | e
    · exact h3 e.symm
    · exact h4 e.symm
theorem Lw.wipe (h : Lw w wr t e g b n s) (hA : Ar wr gl gk f) (hk : w.heap.size + 1 ≤ gk) (cs : Array Value) : Lw w (wr.setRow gk cs) t e g b n s := by
  obtain ⟨h1, h2, h3, h4⟩ := hA.sep h
  exact h.chg (S := fun k => k = gk) (Chg.of_grown (grown_row wr gk cs) (fun k e => by cases e; rfl)) (fun k e => by cases e; exact hk) (fun e => h2 e.symm) (fun e => h4 e.symm)
end
/-- The node's own marks and the arrays go together. -/
theorem hear_f {s : St} {r x q : Int} (h : takeB s r x q = true) : (hearS s r x q).f = fun j => if j = r then some (x, q) else s.f j := by
  unfold hearS
  rw [h]
  rfl
theorem hear_newer {s : St} {r x q : Int} (h : takeB s r x q = true) {p : Int × Int} (hp : s.f r = some p) : newM x q p.1 p.2 = true := by
  unfold takeB freshB at h
  rw [hp] at h
  simp only [Bool.and_eq_true] at h
  exact h.2
theorem beat_f (s : St) : (beatS s).f = s.f := by
  unfold beatS
  split
  · rfl
  · split <;> rfl
end Go.Proofs.Ytpcbbpcibmpopaa
