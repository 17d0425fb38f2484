/- A node that floods a root's time: what its calls make of its state, in plain terms. -/
import Derived.Test.YtgmeakcfiaopcaaGreatBunF
import Derived.Test.YtgmeakcfiaopcaaGreatGbC
import Derived.Test.YtgmeakcfiaopcaaGreatBunG
namespace Go.Proofs.YtgmeakcfiaopcaaGreat
open Go.RowKit
set_option linter.unusedVariables false
set_option linter.unusedSimpArgs false

/-- A node: whose time it goes by, its rules, what it knows of that one's clock, and the point. -/
structure FS where
  s : St
  need : Int
  drift : Int
  L : List Ent
  pl : Int
  pg : Int
  ph : Int
def timeB (t : Int) : Bool := decide (0 ≤ t ∧ t ≤ 1125899906842624)
theorem timeB_iff (t : Int) : timeB t = true ↔ CanT t := by unfold timeB CanT; exact decide_eq_true_iff
theorem timeB_no {t : Int} (h : timeB t = false) : ¬ CanT t := fun k => by rw [(timeB_iff t).2 k] at h; cases h
def minB (f : FS) : Bool := decide (f.s.root = f.s.me)
def synB (f : FS) : Bool := decide (f.s.root = f.s.me ∨ f.need ≤ (f.L.length : Int))
/-- Can a word be heard? -/
def canB (t h lo : Int) : Bool := decide (0 ≤ h ∧ h < 63) && timeB lo && timeB t
def laterB (L : List Ent) (a : Int) : Bool := match L.getLast? with
  | none => true
  | some x => decide (x.1 < a)
theorem later_iff (L : List Ent) (e : Ent) : laterB L e.1 = true ↔ Later L e := by
  unfold laterB Later
  cases L.getLast? with
  | none => simp
  | some x => simp
/-- What is known behind an entry. -/
def keepL (L : List Ent) (e : Ent) : List Ent := if laterB L e.1 = true then pushL L e else [e]
def FS.clear (f : FS) : FS := { f with L := [], pl := 0, pg := 0, ph := 0 }
def FS.at (f : FS) (s : St) : FS := { f with s := s }
/-- What is kept of a word. -/
def FS.keep (f : FS) (t h lo : Int) : FS := { f with L := keepL f.L (lo, t - lo, h + 1), pl := lo, pg := t, ph := h + 1 }
def moveF (f : FS) (v : Int) : FS := if v = 2 then f.clear else f
def hearFV (f : FS) (r x q t h lo : Int) : Int := if canB t h lo = true then hearV f.s r x q else 0
def hearFS (f : FS) (r x q t h lo : Int) : FS := if hearFV f r x q t h lo = 0 then f else (moveF (f.at (hearS f.s r x q)) (hearV f.s r x q)).keep t h lo
def beatF (f : FS) : FS := if beatB f.s = true then (f.at (beatS f.s)).clear else f.at (beatS f.s)
def bootF (f : FS) (x : Int) : FS := (f.at (bootS f.s x)).clear
def newF (me tmo ign need drift x : Int) : FS := ⟨newS me tmo ign x, need, drift, [], 0, 0, 0⟩
def fgoodB (me tmo ign need drift : Int) : Bool := goodB me tmo ign && decide (1 ≤ need ∧ need ≤ 8 ∧ 0 ≤ drift ∧ drift ≤ 10)
/-- What holds of every node. -/
structure FInv (f : FS) : Prop where
  s : Inv f.s
  need : 1 ≤ f.need ∧ f.need ≤ 8
  drift : 0 ≤ f.drift ∧ f.drift ≤ 10
  ents : Ents8 f.L
  pl : CanT f.pl
  pg : CanT f.pg
  ph : 0 ≤ f.ph ∧ f.ph ≤ 63
  own : f.s.root = f.s.me → f.L = []
  know : f.L ≠ [] → 0 ≤ f.s.root
theorem can_zero : CanT 0 := ⟨by decide, by decide⟩
section
variable {f : FS}
theorem canB_iff {t h lo : Int} : canB t h lo = true ↔ (0 ≤ h ∧ h < 63) ∧ CanT lo ∧ CanT t := by
  unfold canB
  simp only [Bool.and_eq_true, timeB_iff, decide_eq_true_eq, and_assoc]
theorem canE_of {t h lo : Int} (hc : canB t h lo = true) : CanE (lo, t - lo, h + 1) := by
  obtain ⟨⟨h0, h1⟩, ⟨l0, l1⟩, ⟨t0, t1⟩⟩ := canB_iff.1 hc
  refine ⟨l0, l1, ?_, ?_, ?_, ?_⟩ <;> dsimp only <;> omega
theorem keepL_ents {L : List Ent} {e : Ent} (h : Ents8 L) (hc : CanE e) : Ents8 (keepL L e) := by
  unfold keepL
  split
  · exact h.push hc
  · exact ⟨by simp, fun x hx => by
      simp only [List.mem_cons, List.not_mem_nil, or_false] at hx
      subst hx
      exact hc⟩
theorem pushL_min {L : List Ent} (h : L.length ≤ 8) (e : Ent) : (pushL L e).length = min (L.length + 1) 8 := by
  unfold pushL
  split <;> simp <;> omega
theorem keepL_ways {L : List Ent} (h : L.length ≤ 8) (e : Ent) : (keepL L e).length = min (L.length + 1) 8 ∨ (keepL L e).length = 1 := by
  unfold keepL
  split
  · exact .inl (pushL_min h e)
  · exact .inr rfl
theorem keepL_nil (e : Ent) : keepL [] e = [e] := rfl
/-- What an Add makes of the entries, and what is kept. -/
theorem keep_step {L : List Ent} {e : Ent} (hc : CanE e) : (laterB L e.1 = true ∧ Step L e (keepL L e) 0) ∨ (laterB L e.1 = false ∧ Step L e L 12 ∧ Step [] e (keepL L e) 0) := by
  unfold keepL
  cases h : laterB L e.1 with
  | true => exact .inl ⟨rfl, .inr (.inr ⟨hc, (later_iff L e).1 h, if_pos rfl, rfl⟩)⟩
  | false =>
    refine .inr ⟨rfl, .inr (.inl ⟨hc, fun k => ?_, rfl, rfl⟩), .inr (.inr ⟨hc, later_nil e, rfl, rfl⟩)⟩
    rw [(later_iff L e).2 k] at h
    cases h
theorem FInv.clear (h : FInv f) : FInv f.clear := ⟨h.s, h.need, h.drift, ents8_nil, can_zero, can_zero, ⟨by show (0 : Int) ≤ 0; omega, by show (0 : Int) ≤ 63; omega⟩, fun _ => rfl, fun k => absurd rfl k⟩
theorem FInv.new {me tmo ign need drift x : Int} (h : fgoodB me tmo ign need drift = true) (hx : F16 x) : FInv (newF me tmo ign need drift x) := by
  unfold fgoodB at h
  simp only [Bool.and_eq_true, decide_eq_true_eq] at h
  obtain ⟨h1, h2, h3, h4, h5⟩ := h
  exact ⟨Inv.new h1 hx, ⟨h2, h3⟩, ⟨h4, h5⟩, ents8_nil, can_zero, can_zero, ⟨by show (0 : Int) ≤ 0; omega, by show (0 : Int) ≤ 63; omega⟩, fun _ => rfl, fun k => absurd rfl k⟩
theorem FInv.boot (h : FInv f) {x : Int} (hx : F16 x) : FInv (bootF f x) :=
  ⟨h.s.reboot hx, h.need, h.drift, ents8_nil, can_zero, can_zero, ⟨by show (0 : Int) ≤ 0; omega, by show (0 : Int) ≤ 63; omega⟩, fun _ => rfl, fun k => absurd rfl k⟩
theorem beat_root {s : St} (h : beatB s = false) : (beatS s).root = s.root ∧ (beatS s).me = s.me := by
  unfold beatB at h
  have h' := of_decide_eq_false h
  unfold beatS
  split
  · exact ⟨rfl, rfl⟩
  · rw [if_pos (by omega)]
    exact ⟨rfl, rfl⟩
theorem beat_mine {s : St} (h : beatB s = true) : (beatS s).root = s.me ∧ (beatS s).me = s.me := by
  unfold beatB at h
  have h' := of_decide_eq_true h
  unfold beatS
  rw [if_neg h'.1, if_neg (by omega)]
  exact ⟨rfl, rfl⟩
theorem FInv.beat (h : FInv f) : FInv (beatF f) := by
  unfold beatF
  split
  · exact ⟨h.s.beat, h.need, h.drift, ents8_nil, can_zero, can_zero, ⟨by show (0 : Int) ≤ 0; omega, by show (0 : Int) ≤ 63; omega⟩, fun _ => rfl, fun k => absurd rfl k⟩
  · rename_i hb
    obtain ⟨e1, e2⟩ := beat_root (Bool.eq_false_iff.2 hb)
    refine ⟨h.s.beat, h.need, h.drift, h.ents, h.pl, h.pg, h.ph, fun k => h.own ?_, fun k => ?_⟩
    · have k' : (beatS f.s).root = (beatS f.s).me := k
      rw [e1, e2] at k'
      exact k'
    · show 0 ≤ (beatS f.s).root
      rw [e1]
      exact h.know k
theorem issue_root (s : St) : (issueS s).root = s.root ∧ (issueS s).me = s.me := by unfold issueS; split <;> exact ⟨rfl, rfl⟩
theorem FInv.issue (h : FInv f) : FInv (f.at (issueS f.s)) := by
  obtain ⟨e1, e2⟩ := issue_root f.s
  refine ⟨h.s.issue, h.need, h.drift, h.ents, h.pl, h.pg, h.ph, fun k => h.own ?_, fun k => ?_⟩
  · have k' : (issueS f.s).root = (issueS f.s).me := k
    rw [e1, e2] at k'
    exact k'
  · show 0 ≤ (issueS f.s).root
    rw [e1]
    exact h.know k
/-- A word is refused, and nothing changed, or it is taken, and the root is the word's. -/
theorem hearF_ways (h : FInv f) (r x q t hp lo : Int) (hx : F16 x) (hq : F16 q) : (hearFV f r x q t hp lo = 0 ∧ hearFS f r x q t hp lo = f) ∨
    (canB t hp lo = true ∧ (hearV f.s r x q = 1 ∨ hearV f.s r x q = 2) ∧ hearFV f r x q t hp lo = hearV f.s r x q ∧ hearFS f r x q t hp lo = (moveF (f.at (hearS f.s r x q)) (hearV f.s r x q)).keep t hp lo ∧ takeB f.s r x q = true ∧ 0 ≤ r ∧ r < f.s.me) := by
  unfold hearFS
  cases hc : canB t hp lo with
  | false =>
    have e : hearFV f r x q t hp lo = 0 := by unfold hearFV; rw [hc]; rfl
    exact .inl ⟨e, if_pos e⟩
  | true =>
    have e : hearFV f r x q t hp lo = hearV f.s r x q := by unfold hearFV; rw [hc]; rfl
    rw [e]
    rcases hear_ways r x q h.s with ⟨k1, k2⟩ | ⟨k1, k2, k3, k4, k5, k6, k7⟩
    · exact .inl ⟨k1, if_pos k1⟩
    · have hv : hearV f.s r x q = if movB f.s r x = true then 2 else 1 := by unfold hearV; rw [k7]; rfl
      have h12 : hearV f.s r x q = 1 ∨ hearV f.s r x q = 2 := by
        rw [hv]
        split
        · exact .inr rfl
        · exact .inl rfl
      exact .inr ⟨rfl, h12, rfl, if_neg (by omega), k7, k4, k5⟩
theorem hear_took {s : St} {r x q : Int} (h : takeB s r x q = true) : (hearS s r x q).root = r ∧ (hearS s r x q).me = s.me ∧ (hearS s r x q).f r = some (x, q) := by
  unfold hearS
  rw [h]
  exact ⟨rfl, rfl, if_pos rfl⟩
theorem FInv.hear (h : FInv f) (r x q t hp lo : Int) (hx : F16 x) (hq : F16 q) : FInv (hearFS f r x q t hp lo) := by
  rcases hearF_ways h r x q t hp lo hx hq with ⟨-, e⟩ | ⟨hc, -, -, e, ht, hr0, hr1⟩
  · rw [e]
    exact h
  · rw [e]
    obtain ⟨e1, e2, -⟩ := hear_took ht
    obtain ⟨⟨h0, h1⟩, hl, hg⟩ := canB_iff.1 hc
    have hm : ∀ L, Ents8 L → FInv ((({ f.at (hearS f.s r x q) with L := L } : FS)).keep t hp lo) := fun L hL =>
      ⟨h.s.hear hx hq, h.need, h.drift, keepL_ents hL (canE_of hc), hl, hg, ⟨by show 0 ≤ hp + 1; omega, by show hp + 1 ≤ 63; omega⟩, fun k => by
        have k' : (hearS f.s r x q).root = (hearS f.s r x q).me := k
        omega, fun _ => by show 0 ≤ (hearS f.s r x q).root; omega⟩
    unfold moveF
    split
    · exact hm [] ents8_nil
    · exact hm f.L h.ents
end
/-- A word: From, Root, Boot, Seq, Hops, Time. -/
abbrev W6 := Int × Int × Int × Int × Int × Int
def wordV (W : W6) : Value := .agg #[.int .i64 W.1, .int .i64 W.2.1, .int .u16 W.2.2.1, .int .u16 W.2.2.2.1, .int .i64 W.2.2.2.2.1, .int .i64 W.2.2.2.2.2]
def noW : W6 := (0, 0, 0, 0, 0, 0)
/-- What it says, and what becomes of it. -/
def Says (f : FS) (lo : Int) (W : W6) (ok : Bool) (f' : FS) : Prop :=
  (timeB lo = false ∧ W = noW ∧ ok = false ∧ f' = f) ∨
  (timeB lo = true ∧ minB f = true ∧ W = (f.s.me, f.s.root, f.s.boot, nextV f.s.seq, 0, lo) ∧ ok = true ∧ f' = f.at (issueS f.s)) ∨
  (timeB lo = true ∧ minB f = false ∧ synB f = false ∧ W = noW ∧ ok = false ∧ f' = f) ∨
  (timeB lo = true ∧ minB f = false ∧ synB f = true ∧ timeB (f.pg + (lo - f.pl)) = true ∧ W = (f.s.me, f.s.root, (saidV f.s).1, (saidV f.s).2, f.ph, f.pg + (lo - f.pl)) ∧ ok = true ∧ f' = f) ∨
  (timeB lo = true ∧ minB f = false ∧ synB f = true ∧ timeB (f.pg + (lo - f.pl)) = false ∧ W = noW ∧ ok = false ∧ f' = f)
theorem says_is (f : FS) (lo : Int) : ∃ W ok f', Says f lo W ok f' := by
  cases h1 : timeB lo with
  | false => exact ⟨_, _, _, .inl ⟨h1, rfl, rfl, rfl⟩⟩
  | true =>
    cases h2 : minB f with
    | true => exact ⟨_, _, _, .inr (.inl ⟨h1, h2, rfl, rfl, rfl⟩)⟩
    | false =>
      cases h3 : synB f with
      | false => exact ⟨_, _, _, .inr (.inr (.inl ⟨h1, h2, h3, rfl, rfl, rfl⟩))⟩
      | true =>
        cases h4 : timeB (f.pg + (lo - f.pl)) with
        | true => exact ⟨_, _, _, .inr (.inr (.inr (.inl ⟨h1, h2, h3, h4, rfl, rfl, rfl⟩)))⟩
        | false => exact ⟨_, _, _, .inr (.inr (.inr (.inr ⟨h1, h2, h3, h4, rfl, rfl, rfl⟩)))⟩
theorem FInv.says {f f' : FS} {lo : Int} {W : W6} {ok : Bool} (h : FInv f) (hs : Says f lo W ok f') : FInv f' := by
  rcases hs with ⟨_, _, _, rfl⟩ | ⟨_, _, _, _, rfl⟩ | ⟨_, _, _, _, _, rfl⟩ | ⟨_, _, _, _, _, _, rfl⟩ | ⟨_, _, _, _, _, _, rfl⟩
  · exact h
  · exact h.issue
  · exact h
  · exact h
  · exact h
/-- The root's time, over how many hops, and the error. -/
def Tells (f : FS) (lo g hp v : Int) : Prop :=
  (synB f = false ∧ g = 0 ∧ hp = 0 ∧ v = 9) ∨ (synB f = true ∧ timeB lo = false ∧ g = 0 ∧ hp = 0 ∧ v = 8) ∨ (synB f = true ∧ timeB lo = true ∧ minB f = true ∧ g = lo ∧ hp = 0 ∧ v = 0) ∨
  (synB f = true ∧ timeB lo = true ∧ minB f = false ∧ ∃ G ok, Glob (locV f.L) (offV f.L) (ofV f.drift f.L).1 (ofV f.drift f.L).2 lo G ok ∧ (ok = true ∧ g = G ∧ hp = mostL f.L ∧ v = 0 ∨ ok = false ∧ g = 0 ∧ hp = 0 ∧ v = 8))
theorem tells_is (f : FS) (lo : Int) : ∃ g hp v, Tells f lo g hp v := by
  cases h3 : synB f with
  | false => exact ⟨_, _, _, .inl ⟨h3, rfl, rfl, rfl⟩⟩
  | true =>
    cases h1 : timeB lo with
    | false => exact ⟨_, _, _, .inr (.inl ⟨h3, h1, rfl, rfl, rfl⟩)⟩
    | true =>
      cases h2 : minB f with
      | true => exact ⟨_, _, _, .inr (.inr (.inl ⟨h3, h1, h2, rfl, rfl, rfl⟩))⟩
      | false =>
        obtain ⟨G, ok, hg⟩ := glob_ex (locV f.L) (offV f.L) (ofV f.drift f.L).1 (ofV f.drift f.L).2 lo
        cases ok with
        | true => exact ⟨_, _, _, .inr (.inr (.inr ⟨h3, h1, h2, G, true, hg, .inl ⟨rfl, rfl, rfl, rfl⟩⟩))⟩
        | false => exact ⟨_, _, _, .inr (.inr (.inr ⟨h3, h1, h2, G, false, hg, .inr ⟨rfl, rfl, rfl, rfl⟩⟩))⟩
/-- What is synced, and isn't the root, knows something. -/
theorem syn_some {f : FS} (h : FInv f) (h1 : minB f = false) (h2 : synB f = true) : f.L ≠ [] := by
  have k1 := of_decide_eq_false h1
  have k2 := of_decide_eq_true h2
  have := h.need
  intro e
  rw [e] at k2
  simp only [List.length_nil] at k2
  omega
end Go.Proofs.YtgmeakcfiaopcaaGreat
