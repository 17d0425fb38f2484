/- The document's fields of a frame. (Written by wip/tools/mkframe.py.) -/
import Derived.Test.YtbdlpkkgfhknkaaFrmG
import Derived.Great.BuildSlice
namespace Go.Proofs.Ytbdlpkkgfhknkaa
open Go.RowKit
set_option linter.unusedSimpArgs false
/-- A field's three numbers: its size, itself, its greatest. -/
def rowsOf (l : List (Int × Int)) : List Value := l.flatMap fun x => [.int .i64 (sizeF x.1 : Int), .int .i64 x.2, .int .i64 (mostF x.1)]
/-- A row of fields was answered. -/
def GaveFields (l : List (Int × Int)) (w : World) (e : Ending) (w' : World) : Prop :=
  ∃ g, e = .returned (.slice (some ⟨g, 0, none⟩) l.length l.length) ∧ Holds w' g 76 (rowsOf l).toArray ∧ w.heap.size ≤ g ∧ Below w.heap.size w w'
set_option maxRecDepth 100000 in
set_option maxHeartbeats 2000000 in
theorem fields_sync (frm to root boot seq hops time level sent got back glob tai : Int) (w : World) (uboot : F16 boot) (useq : F16 seq) : Calls Try.prog 28 #[.agg #[.int .i64 1, .int .i64 frm, .int .i64 to, .int .i64 root, .int .u16 boot, .int .u16 seq, .int .i64 hops, .int .i64 time, .int .i64 level, .int .i64 sent, .int .i64 got, .int .i64 back, .int .i64 glob, .int .i64 tai]] w (GaveFields (Fr.fields (.sync frm root boot seq hops time)) w) := by
  obtain ⟨uboot0, uboot1⟩ := uboot
  obtain ⟨useq0, useq1⟩ := useq
  go_enter Try.func28, Try.ntmps28
  go_wp2
  go_ret
  refine ⟨w.heap.size + 2, rfl, ?_, by omega, (((Below.refl _ _).alloc (Nat.le_refl _) _).alloc (by simp) _).alloc (by simp; omega) _⟩
  have := Holds.new ((w.alloc (.cells (#[.int .i64 1, .int .i64 frm, .int .i64 to, .int .i64 root, .int .u16 boot, .int .u16 seq, .int .i64 hops, .int .i64 time, .int .i64 level, .int .i64 sent, .int .i64 got, .int .i64 back, .int .i64 glob, .int .i64 tai]) 24)).alloc (.cells #[.int .i64 1, .int .i64 frm, .int .i64 63] 76)) 76 (rowsOf (Fr.fields (.sync frm root boot seq hops time))).toArray
  rw [size_alloc, size_alloc] at this
  exact this
set_option maxRecDepth 100000 in
set_option maxHeartbeats 2000000 in
theorem fields_find (frm to root boot seq hops time level sent got back glob tai : Int) (w : World)  : Calls Try.prog 28 #[.agg #[.int .i64 2, .int .i64 frm, .int .i64 to, .int .i64 root, .int .u16 boot, .int .u16 seq, .int .i64 hops, .int .i64 time, .int .i64 level, .int .i64 sent, .int .i64 got, .int .i64 back, .int .i64 glob, .int .i64 tai]] w (GaveFields (Fr.fields (.find frm level)) w) := by
  go_enter Try.func28, Try.ntmps28
  go_wp2
  go_ret
  refine ⟨w.heap.size + 2, rfl, ?_, by omega, (((Below.refl _ _).alloc (Nat.le_refl _) _).alloc (by simp) _).alloc (by simp; omega) _⟩
  have := Holds.new ((w.alloc (.cells (#[.int .i64 2, .int .i64 frm, .int .i64 to, .int .i64 root, .int .u16 boot, .int .u16 seq, .int .i64 hops, .int .i64 time, .int .i64 level, .int .i64 sent, .int .i64 got, .int .i64 back, .int .i64 glob, .int .i64 tai]) 24)).alloc (.cells #[.int .i64 1, .int .i64 frm, .int .i64 63] 76)) 76 (rowsOf (Fr.fields (.find frm level))).toArray
  rw [size_alloc, size_alloc] at this
  exact this
set_option maxRecDepth 100000 in
set_option maxHeartbeats 2000000 in
theorem fields_want (frm to root boot seq hops time level sent got back glob tai : Int) (w : World)  : Calls Try.prog 28 #[.agg #[.int .i64 3, .int .i64 frm, .int .i64 to, .int .i64 root, .int .u16 boot, .int .u16 seq, .int .i64 hops, .int .i64 time, .int .i64 level, .int .i64 sent, .int .i64 got, .int .i64 back, .int .i64 glob, .int .i64 tai]] w (GaveFields (Fr.fields (.want frm)) w) := by
  go_enter Try.func28, Try.ntmps28
  go_wp2
  go_ret
  refine ⟨w.heap.size + 2, rfl, ?_, by omega, (((Below.refl _ _).alloc (Nat.le_refl _) _).alloc (by simp) _).alloc (by simp; omega) _⟩
  have := Holds.new ((w.alloc (.cells (#[.int .i64 3, .int .i64 frm, .int .i64 to, .int .i64 root, .int .u16 boot, .int .u16 seq, .int .i64 hops, .int .i64 time, .int .i64 level, .int .i64 sent, .int .i64 got, .int .i64 back, .int .i64 glob, .int .i64 tai]) 24)).alloc (.cells #[.int .i64 1, .int .i64 frm, .int .i64 63] 76)) 76 (rowsOf (Fr.fields (.want frm))).toArray
  rw [size_alloc, size_alloc] at this
  exact this
set_option maxRecDepth 100000 in
set_option maxHeartbeats 2000000 in
theorem fields_pulse (frm to root boot seq hops time level sent got back glob tai : Int) (w : World)  : Calls Try.prog 28 #[.agg #[.int .i64 4, .int .i64 frm, .int .i64 to, .int .i64 root, .int .u16 boot, .int .u16 seq, .int .i64 hops, .int .i64 time, .int .i64 level, .int .i64 sent, .int .i64 got, .int .i64 back, .int .i64 glob, .int .i64 tai]] w (GaveFields (Fr.fields (.pulse frm to sent)) w) := by
  go_enter Try.func28, Try.ntmps28
  go_wp2
  go_ret
  refine ⟨w.heap.size + 2, rfl, ?_, by omega, (((Below.refl _ _).alloc (Nat.le_refl _) _).alloc (by simp) _).alloc (by simp; omega) _⟩
  have := Holds.new ((w.alloc (.cells (#[.int .i64 4, .int .i64 frm, .int .i64 to, .int .i64 root, .int .u16 boot, .int .u16 seq, .int .i64 hops, .int .i64 time, .int .i64 level, .int .i64 sent, .int .i64 got, .int .i64 back, .int .i64 glob, .int .i64 tai]) 24)).alloc (.cells #[.int .i64 1, .int .i64 frm, .int .i64 63] 76)) 76 (rowsOf (Fr.fields (.pulse frm to sent))).toArray
  rw [size_alloc, size_alloc] at this
  exact this
set_option maxRecDepth 100000 in
set_option maxHeartbeats 2000000 in
theorem fields_reply (frm to root boot seq hops time level sent got back glob tai : Int) (w : World) (uboot : F16 boot) : Calls Try.prog 28 #[.agg #[.int .i64 5, .int .i64 frm, .int .i64 to, .int .i64 root, .int .u16 boot, .int .u16 seq, .int .i64 hops, .int .i64 time, .int .i64 level, .int .i64 sent, .int .i64 got, .int .i64 back, .int .i64 glob, .int .i64 tai]] w (GaveFields (Fr.fields (.reply frm to sent got back root boot hops)) w) := by
  obtain ⟨uboot0, uboot1⟩ := uboot
  go_enter Try.func28, Try.ntmps28
  go_wp2
  go_ret
  refine ⟨w.heap.size + 2, rfl, ?_, by omega, (((Below.refl _ _).alloc (Nat.le_refl _) _).alloc (by simp) _).alloc (by simp; omega) _⟩
  have := Holds.new ((w.alloc (.cells (#[.int .i64 5, .int .i64 frm, .int .i64 to, .int .i64 root, .int .u16 boot, .int .u16 seq, .int .i64 hops, .int .i64 time, .int .i64 level, .int .i64 sent, .int .i64 got, .int .i64 back, .int .i64 glob, .int .i64 tai]) 24)).alloc (.cells #[.int .i64 1, .int .i64 frm, .int .i64 63] 76)) 76 (rowsOf (Fr.fields (.reply frm to sent got back root boot hops))).toArray
  rw [size_alloc, size_alloc] at this
  exact this
set_option maxRecDepth 100000 in
set_option maxHeartbeats 2000000 in
theorem fields_anchor (frm to root boot seq hops time level sent got back glob tai : Int) (w : World) (useq : F16 seq) (uboot : F16 boot) : Calls Try.prog 28 #[.agg #[.int .i64 6, .int .i64 frm, .int .i64 to, .int .i64 root, .int .u16 boot, .int .u16 seq, .int .i64 hops, .int .i64 time, .int .i64 level, .int .i64 sent, .int .i64 got, .int .i64 back, .int .i64 glob, .int .i64 tai]] w (GaveFields (Fr.fields (.anchor frm seq root boot glob tai)) w) := by
  obtain ⟨useq0, useq1⟩ := useq
  obtain ⟨uboot0, uboot1⟩ := uboot
  go_enter Try.func28, Try.ntmps28
  go_wp2
  go_ret
  refine ⟨w.heap.size + 2, rfl, ?_, by omega, (((Below.refl _ _).alloc (Nat.le_refl _) _).alloc (by simp) _).alloc (by simp; omega) _⟩
  have := Holds.new ((w.alloc (.cells (#[.int .i64 6, .int .i64 frm, .int .i64 to, .int .i64 root, .int .u16 boot, .int .u16 seq, .int .i64 hops, .int .i64 time, .int .i64 level, .int .i64 sent, .int .i64 got, .int .i64 back, .int .i64 glob, .int .i64 tai]) 24)).alloc (.cells #[.int .i64 1, .int .i64 frm, .int .i64 63] 76)) 76 (rowsOf (Fr.fields (.anchor frm seq root boot glob tai))).toArray
  rw [size_alloc, size_alloc] at this
  exact this
set_option maxRecDepth 100000 in
set_option maxHeartbeats 2000000 in
theorem fields_nil (kind frm to root boot seq hops time level sent got back glob tai : Int) (w : World) (h1 : (kind == 1) = false) (h2 : (kind == 2) = false) (h3 : (kind == 3) = false) (h4 : (kind == 4) = false) (h5 : (kind == 5) = false) (h6 : (kind == 6) = false) : Calls Try.prog 28 #[.agg #[.int .i64 kind, .int .i64 frm, .int .i64 to, .int .i64 root, .int .u16 boot, .int .u16 seq, .int .i64 hops, .int .i64 time, .int .i64 level, .int .i64 sent, .int .i64 got, .int .i64 back, .int .i64 glob, .int .i64 tai]] w (Told (.slice none 0 0) w) := by
  go_enter Try.func28, Try.ntmps28
  go_wp2
  go_ret
  exact ⟨rfl, ((Below.refl _ _).alloc (Nat.le_refl _) _).alloc (by simp) _⟩
theorem fields_any (p : Pl) (f : Fr) (w : World) (hp : p.wf) (h : p.fr = some f) : Calls Try.prog 28 #[p.val] w (GaveFields f.fields w) := by
  have hk := Pl.kind_of h
  have hb := hp.boot
  have hs := hp.seq
  obtain ⟨kind, frm, to, root, boot, seq, hops, time, level, sent, got, back, glob, tai⟩ := p
  by_cases h1 : kind = 1
  · subst h1
    obtain rfl : f = .sync frm root boot seq hops time := by simpa [Pl.fr] using h.symm
    exact fields_sync frm to root boot seq hops time level sent got back glob tai w hb hs
  by_cases h2 : kind = 2
  · subst h2
    obtain rfl : f = .find frm level := by simpa [Pl.fr] using h.symm
    exact fields_find frm to root boot seq hops time level sent got back glob tai w 
  by_cases h3 : kind = 3
  · subst h3
    obtain rfl : f = .want frm := by simpa [Pl.fr] using h.symm
    exact fields_want frm to root boot seq hops time level sent got back glob tai w 
  by_cases h4 : kind = 4
  · subst h4
    obtain rfl : f = .pulse frm to sent := by simpa [Pl.fr] using h.symm
    exact fields_pulse frm to root boot seq hops time level sent got back glob tai w 
  by_cases h5 : kind = 5
  · subst h5
    obtain rfl : f = .reply frm to sent got back root boot hops := by simpa [Pl.fr] using h.symm
    exact fields_reply frm to root boot seq hops time level sent got back glob tai w hb
  by_cases h6 : kind = 6
  · subst h6
    obtain rfl : f = .anchor frm seq root boot glob tai := by simpa [Pl.fr] using h.symm
    exact fields_anchor frm to root boot seq hops time level sent got back glob tai w hs hb
  simp [Pl.fr, h1, h2, h3, h4, h5, h6] at h
theorem fields_none (p : Pl) (w : World) (h : p.fr = none) : Calls Try.prog 28 #[p.val] w (Told (.slice none 0 0) w) := by
  obtain ⟨h1, h2, h3, h4, h5, h6⟩ := Pl.fr_none h
  obtain ⟨kind, frm, to, root, boot, seq, hops, time, level, sent, got, back, glob, tai⟩ := p
  exact fields_nil kind frm to root boot seq hops time level sent got back glob tai w (by simpa using h1) (by simpa using h2) (by simpa using h3) (by simpa using h4) (by simpa using h5) (by simpa using h6)
end Go.Proofs.Ytbdlpkkgfhknkaa
