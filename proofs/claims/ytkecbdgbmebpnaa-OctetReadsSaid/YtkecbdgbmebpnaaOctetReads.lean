/-
  Of any bytes (up to 300) an eye answers what the document says, whatever sizes are asked for (up to 60), one behind the other: the number in the next bytes and true, or 0 and false; after each it tells how many bytes are left. A nil eye has none, and reads none; and what was handed in is written over before the first reading.
  The walk is the prover's own; the frame of the row's step follows the kit's template.
-/
import Derived.Test.YtkecbdgbmebpnaaRows
import Derived.Test.YtkecbdgbmebpnaaLawKit
import Derived.Test.YtkecbdgbmebpnaaOctF
namespace Go.Proofs.Ytkecbdgbmebpnaa.octetReads
open Go.ChangeShapes Go.WideShapes Go.ChangeAt Go.RowKit Go.ChangeMaps Go.WideElems
set_option linter.unusedVariables false

theorem own : ownKnob Try.prog.godebug = none := by kernel_rfl
/-- While the bytes that were handed in are written over. -/
def Wiping (w : World) (B C g n c : Nat) (A : Option Addr) (z0 : List Int) (wr : World) : Prop :=
  ∃ zs : List Int, wr.ownsRow B 5 1 (.slice A n c) n (zs.map (.int .u8)) ∧ Eyes wr C g z0 ∧ Below w.heap.size w wr
/-- Behind some sizes that were asked for: at bytes are read. -/
def Asked (w : World) (C g n : Nat) (z0 : List Int) (wr : World) (a : Nat) : Prop := a ≤ n ∧ Eyes wr C g (z0.drop a) ∧ Below w.heap.size w wr
theorem left_as {B g : Nat} {zs : List Int} {w : World} {V : Int} (h : Eyes w B g zs) (hV : (zs.length : Int) = V) :
    Calls Try.prog 9 #[.pointer (some ⟨g, 0, none⟩)] w fun e w' => e = .returned (.int .i64 V) ∧ w = w' := by
  subst hV
  exact left_any B g zs w h
theorem num_as {w0 w : World} {C g k n a : Nat} {z0 : List Int} {V : Int} (h : Asked w0 C g n z0 w a) (hl : z0.length = n) (hC : w0.heap.size ≤ C) (hk : k ≤ 8) (hn : a + k ≤ n) (hv : getB ((z0.drop a).take k) = V) :
    Calls Try.prog 7 #[.pointer (some ⟨g, 0, none⟩), .int .i64 (k : Int)] w fun e w' => e = .returned (.tuple #[.int .u64 V, .bool true]) ∧ Asked w0 C g n z0 w' (a + k) := by
  obtain ⟨ha, he, hb⟩ := h
  subst hv
  refine (num_yes C g k _ w he hk (by rw [List.length_drop]; omega)).mono fun _ _ ⟨h1, h2, h3⟩ => ⟨h1, hn, ?_, below_grown hb hb.size h3 (Nat.le_trans hC he.1)⟩
  rw [List.drop_drop] at h2
  exact h2
theorem get_as {A : Option Addr} {n c : Nat} {zs : List Int} {w : World} {V : Int} (hr : IntRow w .u8 A n c zs) (hn : n ≤ 8) (hv : getB zs = V) :
    Calls Try.prog 8 #[.slice A n c] w fun e w' => e = .returned (.int .u64 V) ∧ w = w' := by
  subst hv
  exact get_any A n c zs w hr hn
theorem range_any {zs : List Int} (h : ∀ n ∈ zs, (Lit.int .i64 n).wf = true) (k : Nat) : Fits (zs[k]?.getD 0) := by
  rcases Nat.lt_or_ge k zs.length with hk | hk
  · rw [List.getElem?_eq_getElem hk]
    exact fits_wf (h _ (List.getElem_mem hk))
  · rw [List.getElem?_eq_none hk]
    exact ⟨by decide, by decide⟩
theorem wiping_step {w wr : World} {B C g n c b k : Nat} {zs z0 : List Int} (ho : wr.ownsRow B 5 1 (.slice (some ⟨b, 0, none⟩) n c) n (zs.map (.int .u8))) (he : Eyes wr C g z0) (hb : Below w.heap.size w wr) (hbC : b < C) (hwb : w.heap.size ≤ b) :
    Wiping w B C g n c (some ⟨b, 0, none⟩) z0 (wr.setCell ⟨b, k, none⟩ (.int .u8 0)) :=
  ⟨zs.set k 0, own_set ho k 0, he.older hbC _, hb.setCell (p := ⟨b, k, none⟩) hwb _⟩
set_option maxHeartbeats 4000000 in
set_option maxRecDepth 100000 in
theorem walk (A0 : Option Addr) (n0 c0 : Nat) (z0 : List Int) (A1 : Option Addr) (n1 c1 : Nat) (z1 : List Int) (w : World) (w0 : IntRow w .u8 A0 n0 c0 z0) (w1 : IntRow w .i64 A1 n1 c1 z1) :
    Calls Try.prog 3 #[.slice A0 n0 c0, .slice A1 n1 c1] w fun e w' => e = .returned (.bool true) ∧ Below w.heap.size w w' := by
  by_cases h0 : 300 < n0
  · go_enter Try.func3, Try.ntmps3
    go_wp2_with (first
      | ((go_at_call 5; refine (alive_yes _).mono ?_; rintro e w1 ⟨rfl, hb1⟩))
      | ((at_builtin; refine wpList_append_row _ rfl (.tmp 27) (.tmp 28) _ rfl w.heap.size 5 i0 _ 1 Try.underlying22 hi H0.out H1.out H2.out rfl _ 0 [] rfl (World.ownsRow_lit (base := w.heap.size) (size := 1) w1 #[] 0 hb1.size (by simp [maxLen]) (by simp)) .u8 A0 n0 c0 _ rfl ((R0.out.below hb1).alloc _) (by unfold maxLen; omega) (by omega) (by have := hb1.size; simp; omega) ?_; intro A2 c2 w2 hown2 hb2; simp only [Nat.zero_add, List.nil_append] at hown2))
      | ((go_at_call 6; refine (of_any _ _ _ _ _ (IntRow.of_own hown2 R0.out.wf) (by omega)).mono ?_; rintro e w3 h3; obtain ⟨g3, rfl, he3, hg3, hb3⟩ := h3.mk; clear h3)))
    go_ret
    exact ⟨rfl, hb1⟩
  by_cases h1 : 60 < n1
  · go_enter Try.func3, Try.ntmps3
    go_wp2_with (first
      | ((go_at_call 5; refine (alive_yes _).mono ?_; rintro e w1 ⟨rfl, hb1⟩))
      | ((at_builtin; refine wpList_append_row _ rfl (.tmp 27) (.tmp 28) _ rfl w.heap.size 5 i0 _ 1 Try.underlying22 hi H0.out H1.out H2.out rfl _ 0 [] rfl (World.ownsRow_lit (base := w.heap.size) (size := 1) w1 #[] 0 hb1.size (by simp [maxLen]) (by simp)) .u8 A0 n0 c0 _ rfl ((R0.out.below hb1).alloc _) (by unfold maxLen; omega) (by omega) (by have := hb1.size; simp; omega) ?_; intro A2 c2 w2 hown2 hb2; simp only [Nat.zero_add, List.nil_append] at hown2))
      | ((go_at_call 6; refine (of_any _ _ _ _ _ (IntRow.of_own hown2 R0.out.wf) (by omega)).mono ?_; rintro e w3 h3; obtain ⟨g3, rfl, he3, hg3, hb3⟩ := h3.mk; clear h3)))
    go_ret
    exact ⟨rfl, hb1⟩
  obtain ⟨i0, hi, hz0, hz1, hz2⟩ := info_parts byte_info
  have H2 := Lib.hid hz2
  have H1 := Lib.hid hz1
  have H0 := Lib.hid hz0
  have R0 := Lib.hid w0
  have R1 := Lib.hid w1
  clear hz0 hz1 hz2 w0 w1
  go_enter Try.func3, Try.ntmps3
  go_wp2_with (first
    | ((go_at_call 5; refine (alive_yes _).mono ?_; rintro e w1 ⟨rfl, hb1⟩))
    | ((at_builtin; refine wpList_append_row _ rfl (.tmp 27) (.tmp 28) _ rfl w.heap.size 5 i0 _ 1 Try.underlying22 hi H0.out H1.out H2.out rfl _ 0 [] rfl (World.ownsRow_lit (base := w.heap.size) (size := 1) w1 #[] 0 hb1.size (by simp [maxLen]) (by simp)) .u8 A0 n0 c0 _ rfl ((R0.out.below hb1).alloc _) (by unfold maxLen; omega) (by omega) (by have := hb1.size; simp; omega) ?_; intro A2 c2 w2 hown2 hb2; simp only [Nat.zero_add, List.nil_append] at hown2))
    | ((go_at_call 6; refine (of_any _ _ _ _ _ (IntRow.of_own hown2 R0.out.wf) (by omega)).mono ?_; rintro e w3 h3; obtain ⟨g3, rfl, he3, hg3, hb3⟩ := h3.mk; clear h3)))
  have hb0 : Below w.heap.size w w3 := ((hb1.alloc hb1.size _).trans hb2).trans (hb3.mono ((hb1.alloc hb1.size _).trans hb2).size)
  have hCw : w.heap.size ≤ w2.heap.size := ((hb1.alloc hb1.size _).trans hb2).size
  have HO := Lib.hid hown2
  have HE := Lib.hid (own_keep hown2 hb3)
  clear hown2
  go_loopw [34] (fun i wr => ∃ k : Nat, k ≤ n0 ∧ i = .int .i64 k ∧ Wiping w w.heap.size w2.heap.size g3 n0 c2 A2 z0 wr) (fun i _ => n0 - (intOf i).toNat)
  case atStart => exact ⟨0, Nat.zero_le _, rfl, z0, HE.out, he3, hb0⟩
  case round =>
    obtain ⟨k, hk, rfl, zs, hown, heye, hbr⟩ := hrel
    have HW := Lib.hid hown
    have HY := Lib.hid heye
    clear hown heye
    by_cases hlt : k < n0
    · obtain ⟨b, rfl, hb4, hb5⟩ := own_form HO.out (by omega)
      have q3 := own_cell HW.out (j := k) hlt
      have q4 := HW.out.frozenAt k
      obtain ⟨U, hU⟩ : ∃ U, zs[k]?.getD 0 = U := ⟨_, rfl⟩
      rw [hU] at q3
      clear hU
      go_wp2
      go_roundw
      case rel => exact ⟨k + 1, by omega, by go_num, wiping_step HW.out HY.out hbr hb5 hb4⟩
      case measure => simp [intOf]; omega
    · go_wp2
      clear hlt hk hb3 he3 HE HO HW hb1 hb2
      go_loopw [8, 43] (fun a i wr => ∃ j at_ : Nat, j ≤ n1 ∧ i = .int .i64 j ∧ a = .int .i64 at_ ∧ Asked w w2.heap.size g3 n0 z0 wr at_) (fun _ i _ => n1 - (intOf i).toNat)
      case atStart => exact ⟨0, 0, Nat.zero_le _, rfl, rfl, Nat.zero_le _, by simpa using HY.out, hbr⟩
      case round =>
        obtain ⟨j, at_, hj, rfl, rfl, hask⟩ := hrel
        have ha := hask.1
        have hba := hask.2.2
        have HA := Lib.hid hask
        clear hask
        by_cases hlt : j < n1
        · obtain ⟨b1, o1, rfl, hb1', hc1⟩ := (R1.out.below hba).cell (by omega)
          have q1 := hc1 j hlt
          rw [List.getD_eq_getElem?_getD] at q1
          obtain ⟨k1, k2⟩ := range_any R1.out.wf j
          obtain ⟨K, hK⟩ : ∃ K, z1[j]?.getD 0 = K := ⟨_, rfl⟩
          rw [hK] at q1 k1 k2
          have hlen : ((z0.drop at_).length : Int) = (n0 : Int) - (at_ : Int) := by rw [List.length_drop, R0.out.len_eq]; omega
          have hleft := left_as HA.out.2.1 hlen
          clear hc1 hK
          have hcase : K < 0 ∨ (0 ≤ K ∧ 8 < K) ∨ (0 ≤ K ∧ K ≤ 8 ∧ (n0 : Int) - (at_ : Int) < K) ∨ (0 ≤ K ∧ K ≤ 8 ∧ K ≤ (n0 : Int) - (at_ : Int)) := by omega
          rcases hcase with h5 | ⟨h5, h6⟩ | ⟨h5, h6, h7⟩ | ⟨h5, h6, h7⟩
          iterate 3
            · have hno := num_no w2.heap.size g3 K (z0.drop at_) wr HA.out.2.1 ⟨k1, k2⟩ (by unfold cannot; rw [hlen]; simp; omega)
              clear hlen
              go_wp2_with (first
                | (go_at_call 7; refine hno.mono ?_; rintro e w' ⟨rfl, rfl⟩)
                | (go_at_call 9; refine hleft.mono ?_; rintro e w' ⟨rfl, rfl⟩))
              go_roundw
              case rel => exact ⟨j + 1, at_, by omega, by go_num, rfl, HA.out⟩
              case measure => simp [intOf]; omega
          clear hleft hlen
          obtain ⟨k, rfl⟩ := Int.eq_ofNat_of_zero_le h5
          obtain ⟨V, hV⟩ : ∃ V, getB ((z0.drop at_).take k) = V := ⟨_, rfl⟩
          have hyes := num_as HA.out R0.out.len_eq hCw (by omega) (by omega) hV
          have HV := Lib.hid hV
          clear hV
          have hlen2 : ((z0.drop (at_ + k)).length : Int) = (n0 : Int) - ((at_ : Int) + (k : Int)) := by rw [List.length_drop, R0.out.len_eq]; omega
          have HL := Lib.hid hlen2
          have hcap : n0 ≤ c0 := R0.out.cap_le
          have hmax := R0.out.max
          unfold maxLen at hmax
          have hcut := (R0.out.cut (m := at_) ha).pre (m := k) (by omega)
          by_cases hca : c0 = at_
          · rw [if_pos hca, show c0 - at_ = 0 by omega] at hcut
            have hget := fun (w' : World) (hb : Below w.heap.size w w') => get_as (hcut.below hb) (by omega) HV.out
            subst hca
            clear hcut hlen2
            go_wp2_with (first
              | (go_at_call 7; refine hyes.mono ?_; rintro e wn ⟨rfl, hask⟩)
              | (go_at_call 8; refine (hget _ hask.2.2).mono ?_; rintro e w' ⟨rfl, rfl⟩)
              | (go_at_call 9; refine (left_as hask.2.1 HL.out).mono ?_; rintro e w' ⟨rfl, rfl⟩))
            go_roundw
            case rel => exact ⟨j + 1, c0 + k, by omega, by go_num, by go_num, hask⟩
            case measure => simp [intOf]; omega
          · rw [if_neg hca] at hcut
            have hget := fun (w' : World) (hb : Below w.heap.size w w') => get_as (hcut.below hb) (by omega) HV.out
            clear hcut hlen2
            go_wp2_with (first
              | (go_at_call 7; refine hyes.mono ?_; rintro e wn ⟨rfl, hask⟩)
              | (go_at_call 8; refine (hget _ hask.2.2).mono ?_; rintro e w' ⟨rfl, rfl⟩)
              | (go_at_call 9; refine (left_as hask.2.1 HL.out).mono ?_; rintro e w' ⟨rfl, rfl⟩))
            go_roundw
            case rel => exact ⟨j + 1, at_ + k, by omega, by go_num, by go_num, hask⟩
            case measure => simp [intOf]; omega
        · go_wp2_with (first
            | (go_at_call 7; refine (num_nil _).mono ?_; rintro e w' ⟨rfl, rfl⟩)
            | (go_at_call 9; refine (left_nil _).mono ?_; rintro e w' ⟨rfl, rfl⟩))
          go_ret
          exact ⟨rfl, hba⟩

set_option maxRecDepth 100000 in
theorem lifted (os : Os) (started : os.Started) (H : Type) (enc : TypeId × Value → H) :
    ReturnsInHanded {} Try.checked os 3 .any (Rows.octetReadsSpec.pre6 enc Try.prog Try.f3 Rows.octetReadsRow.domain false) (Rows.octetReadsSpec.post enc Try.prog Try.f3 false true false false) := by
  refine returnsInHanded_of_change (C := Try.checked) own started (by kernel_rfl) Try.func3
    (ChangeSpec.witness6 (enc := enc) (C := Try.checked) false ⟨#[], #[.slice none 0 0, .slice none 0 0], []⟩ 8 (by kernel_rfl) (by kernel_rfl) (by kernel_rfl) (by kernel_rfl)) ?_
  intro W base args ds gs before hval0 hW hcnd _
  have hval : ∀ (j : Nat) t v, Try.f3.params[j]? = some t → args[j]? = some v → Value.okWide Try.prog W .any base t v := hval0
  have hW' := hW
  obtain ⟨p, q, hA0, hV, rfl, hfz, hnd⟩ := hW
  have hA : DataW.TrodAll enc Try.prog W 0 (fun _ => true) true Try.f3.params.toList args.toList ds p := hA0
  have hAk := hA
  rw [Try.params3] at hA hval
  obtain ⟨v0, vs0, d0, ds0, p0, q0, hargs, rfl, hp, h0, r0⟩ := trodAll_cons hA
  obtain ⟨v1, vs1, d1, ds1, p1, q1, rfl, rfl, rfl, h1, r1⟩ := trodAll_cons r0
  obtain ⟨rfl, rfl, rfl⟩ := trodAll_nil r1
  obtain rfl : args = #[v0, v1] := by cases args; simp_all
  obtain ⟨rfl, rfl⟩ := trodVars_none hV
  clear hA0 hval0 hargs
  simp only [List.append_nil] at hW'
  have hend : ∀ W' : World, Below W.heap.size W W' → Rows.octetReadsSpec.post enc Try.prog Try.f3 false true false false W #[v0, v1] (.bool true) W' := fun W' hb =>
    law_post (tb := 4) hW' hAk rfl (by kernel_rfl) (by kernel_rfl) (by kernel_rfl) Try.underlying4 rfl rfl rfl hb
  clear hW' hAk hp
  obtain ⟨A0, n0, c0, z0, rfl, w0⟩ := ints_arg Try.underlying22 Try.underlying5 (by kernel_rfl) (hval 0 22 v0 rfl rfl) h0
  obtain ⟨A1, n1, c1, z1, rfl, w1⟩ := ints_arg Try.underlying23 Try.underlying3 (by kernel_rfl) (hval 1 23 v1 rfl rfl) h1
  refine (walk A0 n0 c0 z0 A1 n1 c1 z1 W w0 w1).mono fun e W' ⟨he, hg⟩ => ?_
  subst he
  exact ⟨_, rfl, hend W' hg⟩

theorem over : Rows.octetReadsRow.holds Try.pinned (OpenSpec.ofChange Rows.octetReadsSpec) :=
  OpenClaim.holds_of_wide 3 Try.f3 rfl rfl rfl rfl rfl rfl rfl ⟨rfl, rfl, rfl, rfl, rfl⟩ rfl rfl rfl rfl rfl (by kernel_rfl) Try.func3 (by kernel_rfl)
    (of_decide_eq_true (by kernel_rfl)) (by unfold Func.isWrapper; first | (rw [if_pos (by decide +kernel)]; kernel_rfl) | (rw [if_neg (by decide +kernel)]; exact ⟨rfl, rfl⟩))
    (fun os started H enc _ => lifted os started H enc)

/-- THE STATEMENT -/
theorem proved : Rows.OctetReadsSaid :=
  over
#print axioms proved
end Go.Proofs.Ytkecbdgbmebpnaa.octetReads
