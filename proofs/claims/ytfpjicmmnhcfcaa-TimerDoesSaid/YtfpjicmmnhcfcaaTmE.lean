/- Package timer: Due. -/
import Derived.Test.YtfpjicmmnhcfcaaTmD
namespace Go.Proofs.Ytfpjicmmnhcfcaa
open Go.RowKit

theorem int_info : (Try.prog.info? 3).map (fun i => (i.zero, i.size, i.bytes)) = some (some (.int .i64 0), 1, 8) := by kernel_rfl
/-- Behind Due. -/
def Fell (B g : Nat) (v : Value) (t : Int) (L : List (Int × Int)) (w : World) (e : Ending) (w' : World) : Prop :=
  ∃ A c, e = .returned (.slice A (upto t L) c) ∧ w'.ownsRow w.heap.size 3 1 (.slice A (upto t L) c) (upto t L) ((dueL t L).map (.int .i64)) ∧ Now B g v (restL t L) w w'
set_option maxHeartbeats 4000000 in
theorem due_any (w : World) (B g : Nat) (v : Value) (L : List (Int × Int)) (t : Int) (h : Tm w B g v L) :
    Calls Try.prog 12 #[.pointer (some ⟨g, 0, none⟩), .int .i64 t] w (Fell B g v t L w) := by
  have hgw := h.lt
  have hown := h.own
  have hrg := good_rest h.2.1 t
  have hwf := due_wf h.2.1 t
  have hT := h
  obtain ⟨hBg, hgood, A, c, rfl, hh, he⟩ := h
  have h16 := hgood.2.1
  obtain ⟨hnc, hcm⟩ := he.cap
  unfold maxLen at hcm
  have hun := until_any w g B A L.length c L t he (by omega) hgood.1 (hh.cell 0)
  have hul := upto_le t L
  have hdl := due_len t L
  have hdg := fun k (hk : k < upto t L) => due_get t L hk
  obtain ⟨i0, hi, hz0, hz1, hz2⟩ := info_parts int_info
  have H2 := Lib.hid hz2
  have H1 := Lib.hid hz1
  have H0 := Lib.hid hz0
  have hrest : L.take 0 ++ L.drop (upto t L) = restL t L := rfl
  unfold Fell
  obtain ⟨U, hU⟩ : ∃ U, upto t L = U := ⟨_, rfl⟩
  obtain ⟨D, hD⟩ : ∃ D, dueL t L = D := ⟨_, rfl⟩
  rw [hU] at hun hul hdl hrest
  simp only [hU, hD] at hdg hdl hwf ⊢
  have HD := Lib.hid hdl
  have HR := Lib.hid hrest
  have HT := Lib.hid hT
  have HG := Lib.hid hdg
  have HW := Lib.hid hwf
  have HH := Lib.hid hh
  have HE := Lib.hid he
  have HRG := Lib.hid hrg
  clear hz0 hz1 hz2 hdl hrest hT hdg hwf hh he hrg hU hD
  go_enter Try.func12, Try.ntmps12
  go_wp2_with (go_at_call 18; refine hun.mono ?_; rintro e w1 ⟨rfl, hb1⟩; have c1 := (hb1.cell (p := ⟨g, 0, none⟩) hgw).trans (HH.out.cell 0))
  have HB1 := Lib.hid hb1
  clear hb1 c1 hun
  go_loopw [5, 21] (fun x y wr => ∃ (k : Nat) (A2 : Option Addr) (c2 : Nat), k ≤ U ∧ y = .int .i64 k ∧ x = .slice A2 k c2 ∧ wr.ownsRow w.heap.size 3 1 (.slice A2 k c2) k ((D.take k).map (.int .i64)) ∧ Below w.heap.size w wr) (fun _ y _ => U - (intOf y).toNat)
  case atStart => exact ⟨0, none, 0, Nat.zero_le _, rfl, rfl, by simpa using World.ownsRow_nil w1 w.heap.size 3 1, HB1.out⟩
  case round =>
    obtain ⟨k, A2, c2, hk, rfl, rfl, ho, hb⟩ := hrel
    have HO := Lib.hid ho
    have HB := Lib.hid hb
    clear ho hb
    by_cases hlt : k < U
    · obtain ⟨b, rfl, hBb, hbw, q0, q1⟩ := HE.out.at (show k < L.length by omega)
      obtain ⟨a, ha⟩ : ∃ a, (L.getD k (0, 0)).1 = a := ⟨_, rfl⟩
      obtain ⟨z, hz⟩ : ∃ z, (L.getD k (0, 0)).2 = z := ⟨_, rfl⟩
      have hnext := HG.out k hlt
      rw [hz] at hnext
      have hzw : (Lit.int .i64 z).wf = true := HW.out z (by
        have : z ∈ D.take (k + 1) := by rw [hnext]; simp
        exact List.mem_of_mem_take this)
      rw [ha] at q0
      rw [hz] at q1
      have HX := Lib.hid hnext
      have HZ := Lib.hid hzw
      have c0 : wr.cell? ⟨b, k * 2, none⟩ = some (.int .i64 a) := (HB.out.cell (p := ⟨b, k * 2, none⟩) hbw).trans q0
      have c1 : wr.cell? ⟨b, k * 2 + 1, none⟩ = some (.int .i64 z) := (HB.out.cell (p := ⟨b, k * 2 + 1, none⟩) hbw).trans q1
      have hsz := HB.out.size
      have HZ1 : Hid (∀ n ∈ [z], (Lit.int .i64 n).wf = true) := fun n hn => by
        rw [List.mem_singleton.1 hn]
        exact hzw
      have hrow := IntRow.laid (wr.alloc (.cells #[.int .i64 a, .int .i64 z] 50)) 3 .i64 [z] 1 rfl (by simp [maxLen]) HZ1.out
      rw [size_alloc] at hrow
      have HROW := Lib.hid hrow
      clear hrow
      clear q0 q1 ha hz hnext hzw
      go_wp2_with (at_builtin; refine wpList_append_row _ rfl (.tmp 25) (.tmp 28) _ rfl w.heap.size 3 i0 _ 8 Try.underlying38 hi H0.out H1.out H2.out rfl _ k ((D.take k).map (.int .i64)) rfl ((HO.out.alloc _).alloc _) .i64 _ 1 1 [z] rfl HROW.out (by unfold maxLen; omega) (by omega) (by simp; omega) ?_; intro A3 c3 w3 hown3 hb3)
      go_roundw
      case rel => exact ⟨k + 1, A3, c3, by omega, by go_num, rfl, by rw [HX.out, List.map_append]; exact hown3, (((HB.out.alloc hsz _).alloc (by simp; omega) _).trans hb3)⟩
      case measure => simp [intOf]; omega
    · have hkU : k = U := by omega
      subst hkU
      have hkD : D.take k = D := List.take_of_length_le (by rw [HD.out]; exact Nat.le_refl _)
      have ho2 := HO.out
      rw [hkD] at ho2
      have hT2 := HT.out.below HB.out
      have hdel : Calls Try.prog 22 #[.slice A L.length c, .int .i64 0, .int .i64 k] wr fun e w' =>
        e = .returned (.slice A (L.length - k) c) ∧ Ents w' B A (L.length - k) c (L.take 0 ++ L.drop k) ∧ wr.grownBy w' (Value.slice A L.length c).ownBlock := delete_any wr B A L.length c L 0 k (HE.out.below HB.out) (Nat.zero_le _) hul
      have HH2 := Lib.hid (HH.out.below HB.out hgw)
      have c1 : wr.cell? ⟨g, 0, none⟩ = some (.slice A L.length c) := HH2.out.cell 0
      have hD : ∀ w'', Ents w'' B A (L.length - k) c (L.take 0 ++ L.drop k) → wr.grownBy w'' (Value.slice A L.length c).ownBlock →
          ∃ A3 c3, Ending.returned (.slice A2 k c2) = .returned (.slice A3 k c3) ∧ (w''.setCell ⟨g, 0, none⟩ (.slice A (L.length - k) c)).ownsRow w.heap.size 3 1 (.slice A3 k c3) k (D.map (.int .i64)) ∧ Now B g (.slice A L.length c) (restL t L) w (w''.setCell ⟨g, 0, none⟩ (.slice A (L.length - k) c)) := fun w'' he' hg' => by
        have hl := he'.len
        rw [HR.out] at he' hl
        have hnow := now_put hBg HRG.out hl HH2.out hown he' hg' (fun q hq => .inl (by cases A <;> simp [Value.ownBlock] at hq ⊢ <;> exact hq))
        refine ⟨A2, c2, rfl, ?_, Now.after HB.out hnow⟩
        obtain ⟨_, _, hc, _⟩ := hnow
        refine own_chg ho2 hc (fun q hq hp => ?_)
        rcases hp with rfl | hp
        · exact HH2.out.own_apart ho2 (by decide) hq
        · exact own_own ho2 (HE.out.below HB.out) (by decide) hq hp
      have HFin := Lib.hid hD
      clear ho2 hkD hD hT2
      go_wp2_with (go_at_call 22; refine hdel.mono ?_; rintro e w2 ⟨rfl, he2, hg2⟩; have HE2 := Lib.hid he2; have k2 := HH2.out.grown hg2 (fun e => hown e.symm); have c2 := k2.cell 0; have f2 := k2.soft 0)
      go_ret
      exact HFin.out _ HE2.out hg2
end Go.Proofs.Ytfpjicmmnhcfcaa
