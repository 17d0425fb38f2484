/- The document's row of timers: Due. -/
import Derived.Test.YtfpjicmmnhcfcaaTrC
import Derived.Test.YtfpjicmmnhcfcaaTmE
namespace Go.Proofs.Ytfpjicmmnhcfcaa
open Go.RowKit

theorem Rr.list {w : World} {B g B' n : Nat} {v u : Value} {M : List One3} {T : Int} {xs : List Value} (h : Rr w B g v M T) (ho : w.ownsRow B' 3 1 u n xs) {k : Nat} (hk : u.ownBlock = some k) : k ≠ g ∧ v.ownBlock ≠ some k := by
  obtain ⟨_, _, A, c, rfl, hh, he⟩ := h
  exact ⟨fun e => hh.own_apart ho (by decide) (by rw [← e]; exact hk), fun e => own_own he ho (by decide) e hk⟩
/-- The one at a place of the row, as it lies. -/
theorem Rr.spot {w : World} {B g j : Nat} {v : Value} {M : List One3} {T : Int} (h : Rr w B g v M T) (hj : j < M.length) :
    ∃ q c, v = .slice (some ⟨q, 0, none⟩) M.length c ∧ M.length ≤ c ∧ c ≤ 9223372036854775807 ∧ q < w.heap.size ∧ w.cell? ⟨g, 0, none⟩ = some v ∧ w.cell? ⟨q, j * 3, none⟩ = some (.int .i64 (M.getD j (0, 0, 0)).1) ∧ w.cell? ⟨q, j * 3 + 1, none⟩ = some (.int .i64 (M.getD j (0, 0, 0)).2.1) := by
  obtain ⟨_, _, A, c, rfl, hh, he⟩ := h
  obtain ⟨h1, h2⟩ := he.cap
  obtain ⟨q, rfl, _, hq, p0, p1, _⟩ := he.at hj
  unfold maxLen at h2
  exact ⟨q, c, rfl, h1, by omega, hq, hh.cell 0, p0, p1⟩
theorem Rr.spot2 {w : World} {B g j q c : Nat} {M : List One3} {T z : Int} (h : Rr w B g (.slice (some ⟨q, 0, none⟩) M.length c) M T) (hj : j < M.length) (hz : (M.getD j (0, 0, 0)).2.1 = z) :
    w.cell? ⟨g, 0, none⟩ = some (.slice (some ⟨q, 0, none⟩) M.length c) ∧ w.cell? ⟨q, j * 3 + 1, none⟩ = some (.int .i64 z) := by
  obtain ⟨q', c', e, _, _, _, d0, _, p1⟩ := h.spot hj
  simp only [Value.slice.injEq, Option.some.injEq, Addr.mk.injEq, and_true] at e
  obtain ⟨rfl, _⟩ := e
  rw [hz] at p1
  exact ⟨d0, p1⟩
/-- Behind Due of the document. -/
def Rfell (B g : Nat) (v : Value) (t : Int) (L : List (Int × Int)) (T : Int) (w : World) (e : Ending) (w' : World) : Prop :=
  ∃ A c M, e = .returned (.slice A (upto t L) c) ∧ w'.ownsRow w.heap.size 3 1 (.slice A (upto t L) c) (upto t L) ((dueL t L).map (.int .i64)) ∧ Rnow B g v M T w w' ∧ Rel (restL t L) M T
/-- Behind some rounds. -/
def Falling (B g : Nat) (v : Value) (D : List Int) (L : List (Int × Int)) (T : Int) (w : World) (k : Nat) (A : Option Addr) (c : Nat) (v2 : Value) (M : List One3) (wr : World) : Prop :=
  wr.ownsRow w.heap.size 3 1 (.slice A k c) k ((D.take k).map (.int .i64)) ∧ Rr wr B g v2 M T ∧ Rel (L.drop k) M T ∧ Chg (fun q => q = g) w wr ∧ ∀ q, v2.ownBlock = some q → v.ownBlock = some q ∨ w.heap.size ≤ q
def lenOf : Value → Nat | .slice _ n _ => n | _ => 0
set_option maxHeartbeats 4000000 in
theorem rdue_any (w : World) (B g : Nat) (v : Value) (L : List (Int × Int)) (M : List One3) (T t : Int) (h : Rr w B g v M T) (hr : Rel L M T) (hg : Good L) :
    Calls Try.prog 13 #[.pointer (some ⟨g, 0, none⟩), .int .i64 t] w (Rfell B g v t L T w) := by
  have hBg := h.1
  have hgw := h.lt
  have h16 := hg.2.1
  have hul := upto_le t L
  have hwf := due_wf hg t
  have hdl := due_len t L
  have hdg := fun k (hk : k < upto t L) => due_get t L hk
  have hlo := fun k (hk : k < upto t L) (hl : k < L.length) => (take_le (t := t) (L := L) (e := L[k]) (by rw [List.mem_iff_getElem?]; exact ⟨k, by rw [List.getElem?_take, if_pos hk, List.getElem?_eq_getElem hl]⟩) : L[k].1 ≤ t)
  have hhi := fun e (he : e ∈ L.drop (upto t L)) => (drop_gt hg.1 he : t < e.1)
  have hdh := fun k (hl : k < L.length) => drop_head hg.2.2.1 hl
  obtain ⟨i0, hi, hz0, hz1, hz2⟩ := info_parts int_info
  have H2 := Lib.hid hz2
  have H1 := Lib.hid hz1
  have H0 := Lib.hid hz0
  unfold Rfell
  have hrest : L.drop (upto t L) = restL t L := rfl
  obtain ⟨U, hU⟩ : ∃ U, upto t L = U := ⟨_, rfl⟩
  obtain ⟨D, hD⟩ : ∃ D, dueL t L = D := ⟨_, rfl⟩
  simp only [hU, hD] at hul hwf hdl hdg hlo hhi hrest ⊢
  have HR := Lib.hid hrest
  have HW := Lib.hid hwf
  have HDL := Lib.hid hdl
  have HDG := Lib.hid hdg
  have HLO := Lib.hid hlo
  have HHI := Lib.hid hhi
  have HDH := Lib.hid hdh
  have HStart : Hid (Falling B g v D L T w 0 none 0 v M w) := ⟨World.ownsRow_nil _ _ _ _, h, hr, Chg.refl _ _, fun _ hq => .inl hq⟩
  clear hz0 hz1 hz2 hrest hwf hdl hdg hlo hhi hdh hU hD h hr hg
  go_enter Try.func13, Try.ntmps13
  go_wp2
  go_loopw [5] (fun x wr => ∃ (k : Nat) (A : Option Addr) (c : Nat) (v2 : Value) (N : List One3), k ≤ U ∧ x = .slice A k c ∧ Falling B g v D L T w k A c v2 N wr) (fun x _ => 17 - lenOf x)
  case atStart => exact ⟨0, none, 0, v, M, Nat.zero_le _, rfl, HStart.out⟩
  case round =>
    obtain ⟨k, A, c, v2, N, hk, rfl, hf⟩ := hrel
    clear HStart
    obtain ⟨ho, hR, hrel2, hc, hp⟩ := hf
    have hfi := rfirst_any wr B g v2 N T hR
    have hsz := hc.size
    have HRR := Lib.hid hR
    have HO := Lib.hid ho
    have HRel := Lib.hid hrel2
    have HC := Lib.hid hc
    have HP := Lib.hid hp
    clear ho hR hrel2 hc hp
    by_cases hlt : k < U
    · have hkl : k < L.length := by omega
      have hd := List.drop_eq_getElem_cons hkl
      have hlo := HLO.out k hlt hkl
      have hnext := HDG.out k hlt
      have hgd : (L.getD k (0, 0)).2 = L[k].2 := by simp [List.getD, hkl]
      rw [hgd] at hnext
      have hdh := HDH.out k hkl
      obtain ⟨e, he⟩ : ∃ e, L[k] = e := ⟨_, rfl⟩
      rw [he] at hd hlo hnext hdh
      have hzw : (Lit.int .i64 e.2).wf = true := HW.out e.2 (by
        have : e.2 ∈ D.take (k + 1) := by rw [hnext]; simp
        exact List.mem_of_mem_take this)
      have hfirst : ∀ r, IsFirst N r → ∃ j : Nat, j < N.length ∧ r = j ∧ plainO (N.getD j (0, 0, 0)) = e := fun r hr => Rel.first (by have := HRel.out; rw [hd] at this; exact this) hr
      have HF := Lib.hid hfirst
      have HX := Lib.hid hnext
      have HDd := Lib.hid hdh
      obtain ⟨a, ha⟩ : ∃ a, e.1 = a := ⟨_, rfl⟩
      obtain ⟨z, hz⟩ : ∃ z, e.2 = z := ⟨_, rfl⟩
      rw [ha] at hlo
      rw [hz] at hzw HX HDd
      have HAZ : Hid (e.1 = a ∧ e.2 = z) := ⟨ha, hz⟩
      have HZ1 : Hid (∀ n ∈ [z], (Lit.int .i64 n).wf = true) := fun n hn => by
        rw [List.mem_singleton.1 hn]
        exact hzw
      have hgt : decide (t < a) = false := decide_eq_false (by omega)
      clear hd hnext hgd hdh he hzw hfirst ha hz
      have hplain : ∀ (w2 : World) (r : Int), Below wr.heap.size wr w2 → IsFirst N r → ∃ (j q c2 : Nat), r = j ∧ j < N.length ∧ v2 = .slice (some ⟨q, 0, none⟩) N.length c2 ∧ N.length ≤ c2 ∧ c2 ≤ 9223372036854775807 ∧ q < w2.heap.size ∧ w2.cell? ⟨g, 0, none⟩ = some v2 ∧ w2.cell? ⟨q, j * 3, none⟩ = some (.int .i64 a) ∧ w2.cell? ⟨q, j * 3 + 1, none⟩ = some (.int .i64 z) ∧ (N.getD j (0, 0, 0)).2.1 = z := fun w2 r hb2 hr => by
        obtain ⟨j, hj, rfl, hpl⟩ := HF.out r hr
        obtain ⟨q, c2, e1, e2, e3, e4, e5, e6, e7⟩ := (HRR.out.below hb2).spot hj
        refine ⟨j, q, c2, rfl, hj, e1, e2, e3, e4, e5, ?_, ?_, (congrArg Prod.snd hpl).trans HAZ.out.2⟩
        · rw [e6, show (N.getD j (0, 0, 0)).1 = a from (congrArg Prod.fst hpl).trans HAZ.out.1]
        · rw [e7, show (N.getD j (0, 0, 0)).2.1 = z from (congrArg Prod.snd hpl).trans HAZ.out.2]
      have HPl := Lib.hid hplain
      clear hplain
      go_upto_region 5 with (go_at_call 23; refine hfi.mono ?_; rintro e' w2 ⟨r, rfl, hfst, hb2⟩; obtain ⟨j, q, c2, rfl, hj, rfl, hn2, hc2, hqw, d0, p0, p1, hjz⟩ := HPl.out w2 r hb2 hfst; have HJZ := Lib.hid hjz; clear hjz; have hj0 : (0 : Int) ≤ (j : Int) := Int.natCast_nonneg _; have hjn : (j : Int) < (N.length : Int) := Int.ofNat_lt.2 hj; have hneg : decide ((j : Int) < 0) = false := decide_eq_false (Int.not_lt.2 hj0); have HB2 := Lib.hid hb2; clear hfst hb2)
      have R2 := HRR.out.below HB2.out
      have o2 := own_keep HO.out HB2.out
      have ra := R2.below (below_alloc w2 (.cells #[.int .i64 z] 3))
      have oa := o2.alloc (.cells #[.int .i64 z] 3)
      have HRA := Lib.hid ra
      have HOA := Lib.hid oa
      have HROW := Lib.hid (IntRow.laid w2 3 .i64 [z] 1 rfl (by simp [maxLen]) HZ1.out)
      have hsz2 : w.heap.size ≤ (w2.alloc (.cells #[.int .i64 z] 3)).heap.size := by
        have := HB2.out.size
        simp
        omega
      have HSZ2 := Lib.hid hsz2
      have hk16 : k + 1 ≤ 16 := by omega
      clear R2 o2 ra oa hsz2
      go_wp2_with (first
        | (at_builtin; refine wpList_append_grow _ rfl (.tmp 24) (.tmp 33) _ rfl w.heap.size 3 i0 _ 8 Try.underlying38 hi H0.out H1.out H2.out rfl _ k ((D.take k).map (.int .i64)) rfl HOA.out .i64 _ 1 1 [z] rfl HROW.out (by unfold maxLen; omega) (by omega) HSZ2.out ?_; intro A5 c5 w5 ho5 hg5; have hc5 := Chg.of_grown (S := fun q' => (Value.slice A k c).ownBlock = some q') hg5 (fun q' hq' => hq'); have R5 := HRA.out.chg hc5 (fun h => (HRA.out.list HOA.out h).1 rfl) (fun q' hq' h => (HRA.out.list HOA.out h).2 hq'); obtain ⟨d5, p5⟩ := R5.spot2 hj HJZ.out; have hdr := rdrop_any w5 B g _ N T z R5; have HR5 := Lib.hid R5; have HO5 := Lib.hid ho5; have HC5 := Lib.hid hc5; clear ho5 hg5 hc5 R5)
        | (go_at_call 11; refine hdr.mono ?_; rintro e' w6 ⟨rfl, v6, h6, hc6, hp6⟩; have H6 := Lib.hid h6; have HC6 := Lib.hid hc6; have HP6 := Lib.hid hp6; clear h6 hc6 hp6))
      have ho5 : w5.ownsRow w.heap.size 3 1 (.slice A5 (k + 1) c5) (k + 1) ((D.take (k + 1)).map (.int .i64)) := by
        rw [HX.out, List.map_append]
        exact HO5.out
      have ho6 := own_chg ho5 HC6.out (fun q' hq' => (HR5.out.list ho5 hq').1)
      have hrel6 : Rel (L.drop (k + 1)) (othersM z N) T := by
        have := HRel.out.drop z
        rwa [HDd.out] at this
      have hc6 : Chg (fun q' => q' = g) w w6 := by
        have h1 := HC.out.trans (Chg.of_below (fun q' => q' = g) HB2.out) (fun _ _ h => h)
        have h2 := h1.trans (Chg.of_below (fun q' => q' = g) (below_alloc w2 (.cells #[.int .i64 z] 3))) (fun _ _ h => h)
        have h3 := h2.trans HC5.out (fun q' hq' h => by
          have := (HOA.out.lt q' h).1
          omega)
        exact h3.trans HC6.out (fun _ _ h => h)
      have hp6 : ∀ q', v6.ownBlock = some q' → v.ownBlock = some q' ∨ w.heap.size ≤ q' := fun q' hq' => by
        rcases HP6.out q' hq' with h | h
        · exact HP.out q' h
        · refine .inr (Nat.le_trans HSZ2.out (Nat.le_trans HC5.out.size h))
      have HFin : Hid (Falling B g v D L T w (k + 1) A5 c5 v6 (othersM z N) w6) := ⟨ho6, H6.out, hrel6, hc6, hp6⟩
      clear ho5 ho6 hrel6 hc6 hp6
      go_roundw
      case rel => exact ⟨k + 1, A5, c5, v6, _, by omega, rfl, HFin.out⟩
      case measure => simp [lenOf]; omega
    · have hkU : k = U := by omega
      subst hkU
      have hDk : D.take k = D := List.take_of_length_le (by rw [HDL.out]; exact Nat.le_refl _)
      have ho2 := HO.out
      rw [hDk] at ho2
      have hrelR := HRel.out
      rw [HR.out] at hrelR
      have hdone : ∀ w2, Below wr.heap.size wr w2 → ∃ A' c' M', Ending.returned (.slice A k c) = .returned (.slice A' k c') ∧ w2.ownsRow w.heap.size 3 1 (.slice A' k c') k (D.map (.int .i64)) ∧ Rnow B g v M' T w w2 ∧ Rel (restL t L) M' T := fun w2 hb2 =>
        ⟨A, c, N, rfl, own_keep ho2 hb2, ⟨v2, HRR.out.below hb2, HC.out.trans (Chg.of_below _ hb2) (fun _ _ h => h), HP.out⟩, hrelR⟩
      have HDone := Lib.hid hdone
      clear hdone ho2 hDk
      cases hL : restL t L with
      | nil =>
        rw [hL] at hrelR
        have hN : N = [] := hrelR.none
        have hfi2 : Calls Try.prog 23 #[.pointer (some ⟨g, 0, none⟩)] wr fun e w' => e = .returned (.int .i64 (-1)) ∧ Below wr.heap.size wr w' := hfi.mono fun e w' ⟨r, he, hf, hb⟩ => by
          rcases hf with ⟨_, rfl⟩ | ⟨j, hj, _⟩
          · exact ⟨he, hb⟩
          · rw [hN] at hj
            exact absurd hj (Nat.not_lt_zero _)
        clear hrelR hN hfi hL
        go_wp2_with (go_at_call 23; refine hfi2.mono ?_; rintro e' w2 ⟨rfl, hb2⟩; have HB2 := Lib.hid hb2; clear hb2)
        go_ret
        exact HDone.out _ HB2.out
      | cons e R =>
        rw [hL] at hrelR
        have hgt : t < e.1 := HHI.out e (by rw [HR.out, hL]; simp)
        obtain ⟨a, ha⟩ : ∃ a, e.1 = a := ⟨_, rfl⟩
        rw [ha] at hgt
        have hplain : ∀ (w2 : World) (r : Int), Below wr.heap.size wr w2 → IsFirst N r → ∃ (j q c2 : Nat), r = j ∧ j < N.length ∧ v2 = .slice (some ⟨q, 0, none⟩) N.length c2 ∧ N.length ≤ c2 ∧ c2 ≤ 9223372036854775807 ∧ w2.cell? ⟨g, 0, none⟩ = some v2 ∧ w2.cell? ⟨q, j * 3, none⟩ = some (.int .i64 a) := fun w2 r hb2 hr => by
          obtain ⟨j, hj, rfl, hpl⟩ := hrelR.first hr
          obtain ⟨q, c2, e1, e2, e3, e4, e5, e6, e7⟩ := (HRR.out.below hb2).spot hj
          exact ⟨j, q, c2, rfl, hj, e1, e2, e3, e5, by rw [e6, show (N.getD j (0, 0, 0)).1 = a from (congrArg Prod.fst hpl).trans ha]⟩
        have HPl := Lib.hid hplain
        have hgt2 : decide (t < a) = true := decide_eq_true hgt
        clear hplain hrelR hL ha
        go_wp2_with (go_at_call 23; refine hfi.mono ?_; rintro e' w2 ⟨r, rfl, hfst, hb2⟩; obtain ⟨j, q, c2, rfl, hj, rfl, hn2, hc2, d0, p0⟩ := HPl.out w2 r hb2 hfst; have hj0 : (0 : Int) ≤ (j : Int) := Int.natCast_nonneg _; have hjn : (j : Int) < (N.length : Int) := Int.ofNat_lt.2 hj; have hneg : decide ((j : Int) < 0) = false := decide_eq_false (Int.not_lt.2 hj0); have HB2 := Lib.hid hb2; clear hfst hb2)
        go_ret
        exact HDone.out _ HB2.out
end Go.Proofs.Ytfpjicmmnhcfcaa
