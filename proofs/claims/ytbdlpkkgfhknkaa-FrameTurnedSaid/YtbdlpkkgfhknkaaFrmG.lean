/- The law's own struct of all fields: as a value, as a frame, of a frame. (Written by wip/tools/mkframe.py.) -/
import Derived.Test.YtbdlpkkgfhknkaaFrmD
import Derived.Laws.Rows
namespace Go.Proofs.Ytbdlpkkgfhknkaa
open Go.RowKit
set_option linter.unusedSimpArgs false

/-- All fields that there are. -/
structure Pl where
  kind : Int
  frm : Int
  to : Int
  root : Int
  boot : Int
  seq : Int
  hops : Int
  time : Int
  level : Int
  sent : Int
  got : Int
  back : Int
  glob : Int
  tai : Int
def Pl.val (p : Pl) : Value := .agg #[.int .i64 p.kind, .int .i64 p.frm, .int .i64 p.to, .int .i64 p.root, .int .u16 p.boot, .int .u16 p.seq, .int .i64 p.hops, .int .i64 p.time, .int .i64 p.level, .int .i64 p.sent, .int .i64 p.got, .int .i64 p.back, .int .i64 p.glob, .int .i64 p.tai]
/-- Its numbers fit where they stand. -/
structure Pl.wf (p : Pl) : Prop where
  kind : Fits p.kind
  frm : Fits p.frm
  to : Fits p.to
  root : Fits p.root
  boot : F16 p.boot
  seq : F16 p.seq
  hops : Fits p.hops
  time : Fits p.time
  level : Fits p.level
  sent : Fits p.sent
  got : Fits p.got
  back : Fits p.back
  glob : Fits p.glob
  tai : Fits p.tai
/-- The frame that it is. -/
def Pl.fr (p : Pl) : Option Fr :=
  if p.kind = 1 then some (.sync p.frm p.root p.boot p.seq p.hops p.time)
  else if p.kind = 2 then some (.find p.frm p.level)
  else if p.kind = 3 then some (.want p.frm)
  else if p.kind = 4 then some (.pulse p.frm p.to p.sent)
  else if p.kind = 5 then some (.reply p.frm p.to p.sent p.got p.back p.root p.boot p.hops)
  else if p.kind = 6 then some (.anchor p.frm p.seq p.root p.boot p.glob p.tai)
  else none
/-- A frame, as such. -/
def Fr.plain : Fr → Pl
  | .sync a0 a1 a2 a3 a4 a5 => ⟨1, a0, 0, a1, a2, a3, a4, a5, 0, 0, 0, 0, 0, 0⟩
  | .find a0 a1 => ⟨2, a0, 0, 0, 0, 0, 0, 0, a1, 0, 0, 0, 0, 0⟩
  | .want a0 => ⟨3, a0, 0, 0, 0, 0, 0, 0, 0, 0, 0, 0, 0, 0⟩
  | .pulse a0 a1 a2 => ⟨4, a0, a1, 0, 0, 0, 0, 0, 0, a2, 0, 0, 0, 0⟩
  | .reply a0 a1 a2 a3 a4 a5 a6 a7 => ⟨5, a0, a1, a5, a6, 0, a7, 0, 0, a2, a3, a4, 0, 0⟩
  | .anchor a0 a1 a2 a3 a4 a5 => ⟨6, a0, 0, a2, a3, a1, 0, 0, 0, 0, 0, 0, a4, a5⟩
def Pl.zero : Pl := ⟨0, 0, 0, 0, 0, 0, 0, 0, 0, 0, 0, 0, 0, 0⟩
/-- The fields of its kind alone. -/
def Pl.only (p : Pl) : Pl := match p.fr with
  | some f => f.plain
  | none => .zero
theorem Fr.plain_fr (f : Fr) : f.plain.fr = some f := by cases f <;> rfl
theorem Fr.plain_kind (f : Fr) : f.plain.kind = f.kind := by cases f <;> rfl
theorem Pl.only_kind {p : Pl} {f : Fr} (h : p.fr = some f) : p.only = f.plain := by unfold Pl.only; rw [h]
theorem Fr.plain_inj {f g : Fr} (h : f.plain = g.plain) : f = g := by
  have := congrArg Pl.fr h
  rw [f.plain_fr, g.plain_fr] at this
  exact Option.some.inj this
theorem Pl.kind_of {p : Pl} {f : Fr} (h : p.fr = some f) : p.kind = f.kind := by
  unfold Pl.fr at h
  repeat' split at h
  all_goals first | (simp only [Option.some.injEq] at h; subst h; assumption) | cases h
theorem Pl.fr_none {p : Pl} (h : p.fr = none) : p.kind ≠ 1 ∧ p.kind ≠ 2 ∧ p.kind ≠ 3 ∧ p.kind ≠ 4 ∧ p.kind ≠ 5 ∧ p.kind ≠ 6 := by
  unfold Pl.fr at h
  repeat' split at h
  all_goals first | (cases h; done) | (refine ⟨?_, ?_, ?_, ?_, ?_, ?_⟩ <;> assumption)
theorem Pl.wf.fr {p : Pl} {f : Fr} (hp : p.wf) (h : p.fr = some f) : f.wf := by
  unfold Pl.fr at h
  repeat' split at h
  all_goals first
    | (simp only [Option.some.injEq] at h; subst h; intro x hx; simp only [Fr.fields, List.mem_cons, List.not_mem_nil, or_false] at hx; rcases hx with rfl | rfl | rfl | rfl | rfl | rfl | rfl | rfl <;> first | exact hp.frm | exact hp.to | exact hp.root | exact hp.boot | exact hp.seq | exact hp.hops | exact hp.time | exact hp.level | exact hp.sent | exact hp.got | exact hp.back | exact hp.glob | exact hp.tai)
    | (simp only [Option.some.injEq] at h; subst h; intro x hx; simp only [Fr.fields, List.mem_cons, List.not_mem_nil, or_false] at hx; rcases hx with rfl | rfl | rfl | rfl | rfl | rfl <;> first | exact hp.frm | exact hp.to | exact hp.root | exact hp.boot | exact hp.seq | exact hp.hops | exact hp.time | exact hp.level | exact hp.sent | exact hp.got | exact hp.back | exact hp.glob | exact hp.tai)
    | (simp only [Option.some.injEq] at h; subst h; intro x hx; simp only [Fr.fields, List.mem_cons, List.not_mem_nil, or_false] at hx; rcases hx with rfl | rfl | rfl <;> first | exact hp.frm | exact hp.to | exact hp.sent)
    | (simp only [Option.some.injEq] at h; subst h; intro x hx; simp only [Fr.fields, List.mem_cons, List.not_mem_nil, or_false] at hx; rcases hx with rfl | rfl <;> first | exact hp.frm | exact hp.level)
    | (simp only [Option.some.injEq] at h; subst h; intro x hx; simp only [Fr.fields, List.mem_cons, List.not_mem_nil, or_false] at hx; subst hx; exact hp.frm)
    | cases h
set_option maxRecDepth 100000 in
theorem of_sync (frm to root boot seq hops time level sent got back glob tai : Int) (w : World) : Calls Try.prog 10 #[.agg #[.int .i64 1, .int .i64 frm, .int .i64 to, .int .i64 root, .int .u16 boot, .int .u16 seq, .int .i64 hops, .int .i64 time, .int .i64 level, .int .i64 sent, .int .i64 got, .int .i64 back, .int .i64 glob, .int .i64 tai]] w (Told (Fr.val (.sync frm root boot seq hops time)) w) := by
  go_enter Try.func10, Try.ntmps10
  go_wp2
  go_ret
  exact ⟨rfl, (Below.refl _ _).alloc (Nat.le_refl _) _⟩
set_option maxRecDepth 100000 in
theorem of_find (frm to root boot seq hops time level sent got back glob tai : Int) (w : World) : Calls Try.prog 10 #[.agg #[.int .i64 2, .int .i64 frm, .int .i64 to, .int .i64 root, .int .u16 boot, .int .u16 seq, .int .i64 hops, .int .i64 time, .int .i64 level, .int .i64 sent, .int .i64 got, .int .i64 back, .int .i64 glob, .int .i64 tai]] w (Told (Fr.val (.find frm level)) w) := by
  go_enter Try.func10, Try.ntmps10
  go_wp2
  go_ret
  exact ⟨rfl, (Below.refl _ _).alloc (Nat.le_refl _) _⟩
set_option maxRecDepth 100000 in
theorem of_want (frm to root boot seq hops time level sent got back glob tai : Int) (w : World) : Calls Try.prog 10 #[.agg #[.int .i64 3, .int .i64 frm, .int .i64 to, .int .i64 root, .int .u16 boot, .int .u16 seq, .int .i64 hops, .int .i64 time, .int .i64 level, .int .i64 sent, .int .i64 got, .int .i64 back, .int .i64 glob, .int .i64 tai]] w (Told (Fr.val (.want frm)) w) := by
  go_enter Try.func10, Try.ntmps10
  go_wp2
  go_ret
  exact ⟨rfl, (Below.refl _ _).alloc (Nat.le_refl _) _⟩
set_option maxRecDepth 100000 in
theorem of_pulse (frm to root boot seq hops time level sent got back glob tai : Int) (w : World) : Calls Try.prog 10 #[.agg #[.int .i64 4, .int .i64 frm, .int .i64 to, .int .i64 root, .int .u16 boot, .int .u16 seq, .int .i64 hops, .int .i64 time, .int .i64 level, .int .i64 sent, .int .i64 got, .int .i64 back, .int .i64 glob, .int .i64 tai]] w (Told (Fr.val (.pulse frm to sent)) w) := by
  go_enter Try.func10, Try.ntmps10
  go_wp2
  go_ret
  exact ⟨rfl, (Below.refl _ _).alloc (Nat.le_refl _) _⟩
set_option maxRecDepth 100000 in
theorem of_reply (frm to root boot seq hops time level sent got back glob tai : Int) (w : World) : Calls Try.prog 10 #[.agg #[.int .i64 5, .int .i64 frm, .int .i64 to, .int .i64 root, .int .u16 boot, .int .u16 seq, .int .i64 hops, .int .i64 time, .int .i64 level, .int .i64 sent, .int .i64 got, .int .i64 back, .int .i64 glob, .int .i64 tai]] w (Told (Fr.val (.reply frm to sent got back root boot hops)) w) := by
  go_enter Try.func10, Try.ntmps10
  go_wp2
  go_ret
  exact ⟨rfl, (Below.refl _ _).alloc (Nat.le_refl _) _⟩
set_option maxRecDepth 100000 in
theorem of_anchor (frm to root boot seq hops time level sent got back glob tai : Int) (w : World) : Calls Try.prog 10 #[.agg #[.int .i64 6, .int .i64 frm, .int .i64 to, .int .i64 root, .int .u16 boot, .int .u16 seq, .int .i64 hops, .int .i64 time, .int .i64 level, .int .i64 sent, .int .i64 got, .int .i64 back, .int .i64 glob, .int .i64 tai]] w (Told (Fr.val (.anchor frm seq root boot glob tai)) w) := by
  go_enter Try.func10, Try.ntmps10
  go_wp2
  go_ret
  exact ⟨rfl, (Below.refl _ _).alloc (Nat.le_refl _) _⟩
set_option maxRecDepth 100000 in
theorem of_nil (kind frm to root boot seq hops time level sent got back glob tai : Int) (w : World) (h1 : (kind == 1) = false) (h2 : (kind == 2) = false) (h3 : (kind == 3) = false) (h4 : (kind == 4) = false) (h5 : (kind == 5) = false) (h6 : (kind == 6) = false) : Calls Try.prog 10 #[.agg #[.int .i64 kind, .int .i64 frm, .int .i64 to, .int .i64 root, .int .u16 boot, .int .u16 seq, .int .i64 hops, .int .i64 time, .int .i64 level, .int .i64 sent, .int .i64 got, .int .i64 back, .int .i64 glob, .int .i64 tai]] w (Told .nilIface w) := by
  go_enter Try.func10, Try.ntmps10
  go_wp2
  go_ret
  exact ⟨rfl, (Below.refl _ _).alloc (Nat.le_refl _) _⟩
theorem lawof_any (p : Pl) (w : World) : Calls Try.prog 10 #[p.val] w (Told (frVal p.fr) w) := by
  obtain ⟨kind, frm, to, root, boot, seq, hops, time, level, sent, got, back, glob, tai⟩ := p
  by_cases h1 : kind = 1
  · subst h1
    exact of_sync frm to root boot seq hops time level sent got back glob tai w
  by_cases h2 : kind = 2
  · subst h2
    exact of_find frm to root boot seq hops time level sent got back glob tai w
  by_cases h3 : kind = 3
  · subst h3
    exact of_want frm to root boot seq hops time level sent got back glob tai w
  by_cases h4 : kind = 4
  · subst h4
    exact of_pulse frm to root boot seq hops time level sent got back glob tai w
  by_cases h5 : kind = 5
  · subst h5
    exact of_reply frm to root boot seq hops time level sent got back glob tai w
  by_cases h6 : kind = 6
  · subst h6
    exact of_anchor frm to root boot seq hops time level sent got back glob tai w
  have e : (Pl.mk kind frm to root boot seq hops time level sent got back glob tai).fr = none := by unfold Pl.fr; simp [h1, h2, h3, h4, h5, h6]
  have n := of_nil kind frm to root boot seq hops time level sent got back glob tai w (by simpa using h1) (by simpa using h2) (by simpa using h3) (by simpa using h4) (by simpa using h5) (by simpa using h6)
  first | (rw [e]; exact n) | (rw [show (Pl.mk kind frm to root boot seq hops time level sent got back glob tai).only = .zero by unfold Pl.only; rw [e]]; exact n)
end Go.Proofs.Ytbdlpkkgfhknkaa
