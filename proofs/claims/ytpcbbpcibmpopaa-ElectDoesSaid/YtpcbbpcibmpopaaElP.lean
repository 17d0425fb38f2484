/- Whose time a node goes by: what its calls make of its state, in plain terms. -/
import Derived.Test.YtpcbbpcibmpopaaWrapN
import Derived.Test.YtpcbbpcibmpopaaChg
import Derived.Maps.OwnOps
import Derived.Maps.OwnSet
import Derived.Maps.Views
namespace Go.Proofs.Ytpcbbpcibmpopaa
open Go.RowKit

/-- A node: itself, its rules, its life, its last number, its root, how long it waited, for how long it hears no other one, and what it knows of each root. -/
structure St where
  me : Int
  tmo : Int
  ign : Int
  boot : Int
  seq : Int
  root : Int
  waited : Int
  quiet : Int
  f : Int → Option (Int × Int)
/-- Is a mark newer? -/
def newM (b1 s1 b2 s2 : Int) : Bool := if b1 = b2 then newB s1 s2 else newB b1 b2
/-- Would it go by a root? -/
def heedB (s : St) (r : Int) : Bool := decide (0 ≤ r ∧ r < s.me ∧ if s.root = s.me then s.quiet = 0 else (s.root = -1 ∨ r ≤ s.root))
def freshB (s : St) (r b q : Int) : Bool := match s.f r with
  | none => true
  | some p => newM b q p.1 p.2
def takeB (s : St) (r b q : Int) : Bool := heedB s r && freshB s r b q
def movB (s : St) (r b : Int) : Bool := decide (r ≠ s.root ∨ b ≠ ((s.f r).getD (0, 0)).1)
def hearV (s : St) (r b q : Int) : Int := if takeB s r b q = true then (if movB s r b = true then 2 else 1) else 0
def hearS (s : St) (r b q : Int) : St := if takeB s r b q = true then { s with root := r, waited := 0, f := fun i => if i = r then some (b, q) else s.f i } else s
def beatB (s : St) : Bool := decide (s.root ≠ s.me ∧ s.tmo ≤ s.waited + 1)
def beatS (s : St) : St := if s.root = s.me then { s with quiet := max 0 (s.quiet - 1) } else if s.waited + 1 < s.tmo then { s with waited := s.waited + 1 } else { s with root := s.me, waited := 0, quiet := s.ign }
def issueS (s : St) : St := if s.root = s.me then { s with seq := nextV s.seq } else s
def issueV (s : St) : Int × Int := if s.root = s.me then (s.boot, nextV s.seq) else (0, 0)
def bootS (s : St) (b : Int) : St := { s with boot := b, seq := 0, root := -1, waited := 0, quiet := 0, f := fun _ => none }
def saidV (s : St) : Int × Int := if s.root = s.me then (s.boot, s.seq) else if s.root = -1 then (0, 0) else (s.f s.root).getD (0, 0)
def saidB (s : St) : Bool := decide (s.root = s.me ∧ s.seq ≠ 0 ∨ s.root ≠ s.me ∧ s.root ≠ -1)
def newS (me tmo ign b : Int) : St := ⟨me, tmo, ign, b, 0, -1, 0, 0, fun _ => none⟩
def goodB (me tmo ign : Int) : Bool := decide (0 ≤ me ∧ me < 64 ∧ 1 ≤ tmo ∧ tmo ≤ 1000 ∧ 0 ≤ ign ∧ ign ≤ 1000)
/-- What holds of every node. -/
structure Inv (s : St) : Prop where
  me : 0 ≤ s.me ∧ s.me < 64
  tmo : 1 ≤ s.tmo ∧ s.tmo ≤ 1000
  ign : 0 ≤ s.ign ∧ s.ign ≤ 1000
  boot : F16 s.boot
  seq : F16 s.seq
  root : -1 ≤ s.root ∧ s.root ≤ s.me
  knows : 0 ≤ s.root → s.root ≠ s.me → ∃ p, s.f s.root = some p
  waited : 0 ≤ s.waited ∧ s.waited < s.tmo
  quiet : 0 ≤ s.quiet ∧ s.quiet ≤ 1000
  still : s.root ≠ s.me → s.quiet = 0
  marks : ∀ i p, s.f i = some p → F16 p.1 ∧ F16 p.2

theorem newM_self (a b : Int) : newM a b a b = false := by
  unfold newM
  rw [if_pos rfl]
  unfold newB
  exact decide_eq_false (by omega)
theorem take_heed {s : St} {r b q : Int} (h : takeB s r b q = true) : heedB s r = true := by
  unfold takeB at h
  simp only [Bool.and_eq_true] at h
  exact h.1
theorem heed_iff (s : St) (r : Int) : heedB s r = true ↔ (0 ≤ r ∧ r < s.me ∧ if s.root = s.me then s.quiet = 0 else (s.root = -1 ∨ r ≤ s.root)) := by
  unfold heedB
  exact decide_eq_true_iff
theorem take_quiet {s : St} {r b q : Int} (hI : Inv s) (h : takeB s r b q = true) : s.quiet = 0 := by
  have h1 := (heed_iff s r).1 (take_heed h)
  by_cases e : s.root = s.me
  · simpa [e] using h1.2.2
  · exact hI.still e
theorem Inv.hear {s : St} (h : Inv s) {r b q : Int} (hb : F16 b) (hq : F16 q) : Inv (hearS s r b q) := by
  unfold hearS
  split
  · rename_i ht
    have h1 := (heed_iff s r).1 (take_heed ht)
    have h2 := take_quiet h ht
    have ht1 := h.tmo
    refine ⟨h.me, h.tmo, h.ign, h.boot, h.seq, ⟨?_, ?_⟩, fun _ _ => ⟨(b, q), ?_⟩, ⟨?_, ?_⟩, h.quiet, fun _ => h2, fun i p hp => ?_⟩
    · show -1 ≤ r
      omega
    · show r ≤ s.me
      omega
    · show (if r = r then some (b, q) else s.f r) = _
      rw [if_pos rfl]
    · exact Int.le_refl 0
    · show 0 < s.tmo
      omega
    · have hp' : (if i = r then some (b, q) else s.f i) = some p := hp
      split at hp'
      · cases hp'
        exact ⟨hb, hq⟩
      · exact h.marks i p hp'
  · exact h
theorem Inv.beat {s : St} (h : Inv s) : Inv (beatS s) := by
  have h1 := h.quiet
  have h2 := h.waited
  have h3 := h.ign
  have h4 := h.tmo
  have h5 := h.me
  unfold beatS
  split
  · rename_i e
    refine ⟨h.me, h.tmo, h.ign, h.boot, h.seq, h.root, h.knows, h.waited, ⟨?_, ?_⟩, fun hn => absurd e hn, h.marks⟩
    · show 0 ≤ max 0 (s.quiet - 1)
      omega
    · show max 0 (s.quiet - 1) ≤ 1000
      omega
  · rename_i e
    split
    · refine ⟨h.me, h.tmo, h.ign, h.boot, h.seq, h.root, h.knows, ⟨?_, ?_⟩, h.quiet, h.still, h.marks⟩
      · show 0 ≤ s.waited + 1
        omega
      · assumption
    · refine ⟨h.me, h.tmo, h.ign, h.boot, h.seq, ⟨?_, Int.le_refl _⟩, fun _ hn => absurd rfl hn, ⟨Int.le_refl 0, ?_⟩, h3, fun hn => absurd rfl hn, h.marks⟩
      · show -1 ≤ s.me
        omega
      · show 0 < s.tmo
        omega
theorem Inv.issue {s : St} (h : Inv s) : Inv (issueS s) := by
  unfold issueS
  split
  · refine ⟨h.me, h.tmo, h.ign, h.boot, ?_, h.root, h.knows, h.waited, h.quiet, h.still, h.marks⟩
    show F16 (nextV s.seq)
    unfold nextV F16
    omega
  · exact h
theorem Inv.reboot {s : St} (h : Inv s) {b : Int} (hb : F16 b) : Inv (bootS s b) := by
  have h4 := h.tmo
  have h5 := h.me
  refine ⟨h.me, h.tmo, h.ign, hb, (⟨by decide, by decide⟩ : F16 0), ⟨(by decide : (-1 : Int) ≤ -1), ?_⟩, fun (h0 : (0 : Int) ≤ -1) => absurd h0 (by decide), ⟨Int.le_refl 0, ?_⟩, ⟨(by decide : (0 : Int) ≤ 0), (by decide : (0 : Int) ≤ 1000)⟩, fun _ => rfl, fun i p hp => by cases hp⟩
  · show -1 ≤ s.me
    omega
  · show 0 < s.tmo
    omega
theorem good_iff (me tmo ign : Int) : goodB me tmo ign = true ↔ (0 ≤ me ∧ me < 64 ∧ 1 ≤ tmo ∧ tmo ≤ 1000 ∧ 0 ≤ ign ∧ ign ≤ 1000) := by
  unfold goodB
  exact decide_eq_true_iff
theorem Inv.new {me tmo ign b : Int} (h : goodB me tmo ign = true) (hb : F16 b) : Inv (newS me tmo ign b) := by
  obtain ⟨h1, h2, h3, h4, h5, h6⟩ := (good_iff me tmo ign).1 h
  refine ⟨⟨h1, h2⟩, ⟨h3, h4⟩, ⟨h5, h6⟩, hb, (⟨by decide, by decide⟩ : F16 0), ⟨(by decide : (-1 : Int) ≤ -1), ?_⟩, fun (h0 : (0 : Int) ≤ -1) => absurd h0 (by decide), ⟨Int.le_refl 0, ?_⟩, ⟨(by decide : (0 : Int) ≤ 0), (by decide : (0 : Int) ≤ 1000)⟩, fun _ => rfl, fun i p hp => by cases hp⟩
  · show -1 ≤ me
    omega
  · show 0 < tmo
    omega
theorem boot_new (me tmo ign b b' : Int) : bootS (newS me tmo ign b) b' = newS me tmo ign b' := rfl
end Go.Proofs.Ytpcbbpcibmpopaa
