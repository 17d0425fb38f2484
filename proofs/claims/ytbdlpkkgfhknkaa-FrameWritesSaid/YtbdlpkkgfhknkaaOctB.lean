/- What an eye answers. -/
import Derived.Test.YtbdlpkkgfhknkaaProg
import Derived.Test.YtbdlpkkgfhknkaaOctA
import Derived.Test.YtbdlpkkgfhknkaaPtr
import Derived.Great.BuildSlice
import Derived.Deep.QuietTactic
import Derived.BigQuiet
namespace Go.Proofs.Ytbdlpkkgfhknkaa
open Go.RowKit

/-- An eye at block g, on these bytes: they lie in no block older than B. -/
def Eyes (w : World) (B g : Nat) (zs : List Int) : Prop :=
  B ≤ g ∧ ∃ A c, Holds w g 95 #[.slice A zs.length c] ∧ NewRow B w .u8 A zs.length c zs

theorem one_slice {A : Option Addr} {n c : Nat} {k : IntKind} : ∀ (i : Nat) z, (#[Value.slice A n c] : Array Value)[i]? ≠ some (Value.int k z) := by
  intro i z
  rcases i with _ | i <;> simp
theorem Eyes.other {w w' : World} {B B' g g' : Nat} {xs ys : List Int} (h : Eyes w B g xs) (h' : Eyes w B' g' ys) (hne : g ≠ g') (hg : w.grownBy w' (some g')) : Eyes w' B g xs := by
  obtain ⟨hB, A, c, hh, hr⟩ := h
  obtain ⟨_, A', c', hh', _⟩ := h'
  exact ⟨hB, A, c, hh.grown hg (by simpa using hne), hr.grown hg hh' one_slice⟩
theorem Eyes.below {w w' : World} {B g : Nat} {xs : List Int} (h : Eyes w B g xs) (hb : Below w.heap.size w w') : Eyes w' B g xs := by
  obtain ⟨hB, A, c, hh, hr⟩ := h
  exact ⟨hB, A, c, hh.below hb hh.lt, hr.below hb⟩
theorem Eyes.older {w : World} {B g b i : Nat} {xs : List Int} (h : Eyes w B g xs) (hb : b < B) (u : Value) : Eyes (w.setCell ⟨b, i, none⟩ u) B g xs := by
  obtain ⟨hB, A, c, hh, hr⟩ := h
  exact ⟨hB, A, c, hh.far (by omega) u, hr.older hb u⟩
theorem Eyes.drewN {w : World} {B g : Nat} {xs : List Int} (h : Eyes w B g xs) (m : Nat) : Eyes (w.drewN m) B g xs := h.below (below_drewN (Below.refl _ _) m)
theorem Eyes.lt {w : World} {B g : Nat} {xs : List Int} (h : Eyes w B g xs) : g < w.heap.size := by
  obtain ⟨_, A, c, hh, _⟩ := h
  exact hh.lt

theorem left_any (B g : Nat) (zs : List Int) (w : World) (h : Eyes w B g zs) :
    Calls Try.prog 43 #[.pointer (some ⟨g, 0, none⟩)] w fun e w' => e = .returned (.int .i64 (zs.length : Int)) ∧ w = w' := by
  obtain ⟨_, A, c, hh, hr⟩ := h
  have c0 := hh.cell 0
  clear hh hr
  go_enter Try.func43, Try.ntmps43
  go_wp2
  go_ret
  exact ⟨rfl, rfl⟩
theorem left_nil (w : World) :
    Calls Try.prog 43 #[.pointer none] w fun e w' => e = .returned (.int .i64 0) ∧ w = w' := by
  go_enter Try.func43, Try.ntmps43
  go_wp2
  go_ret
  exact ⟨rfl, rfl⟩
theorem byte_info : (Try.prog.info? 5).map (fun i => (i.zero, i.size, i.bytes)) = some (some (.int .u8 0), 1, 1) := by kernel_rfl
/-- An eye on bytes was answered. -/
def GaveEye (w : World) (zs : List Int) (e : Ending) (w' : World) : Prop :=
  ∃ g, e = .returned (.pointer (some ⟨g, 0, none⟩)) ∧ w.heap.size ≤ g ∧ Eyes w' w.heap.size g zs ∧ Below w.heap.size w w'
theorem of_any (A : Option Addr) (n c : Nat) (zs : List Int) (w : World) (hr : IntRow w .u8 A n c zs) (hn : n ≤ 65536) :
    Calls Try.prog 34 #[.slice A n c] w (GaveEye w zs) := by
  obtain ⟨i0, hi, hz0, hz1, hz2⟩ := info_parts byte_info
  have H2 := Lib.hid hz2
  have H1 := Lib.hid hz1
  have H0 := Lib.hid hz0
  have HR := Lib.hid hr
  clear hr hz0 hz1 hz2
  go_enter Try.func34, Try.ntmps34
  go_wp2_with (first
    | (at_builtin; refine wpList_append_row _ rfl (.tmp 3) (.tmp 4) _ rfl w.heap.size 5 i0 _ 1 Try.underlying29 hi H0.out H1.out H2.out rfl _ 0 [] rfl (World.ownsRow_lit (base := w.heap.size) (size := 1) w #[] 0 (Nat.le_refl _) (by simp [maxLen]) (by simp)) .u8 _ n c _ rfl (HR.out.alloc _) (by unfold maxLen; omega) (by omega) (by simp) ?_; intro A3 c3 w3 hown3 hb3; simp only [Nat.zero_add, List.nil_append] at hown3))
  go_ret
  have hl := HR.out.len_eq
  have hb := ((Below.refl _ w).alloc (Nat.le_refl _) _).trans hb3
  refine ⟨_, rfl, (by have := hb3.size; simp at this; omega), ⟨by have := hb.size; omega, A3, c3, ?_, ?_⟩, hb.alloc hb.size _⟩
  · rw [hl]
    exact Holds.new _ _ _
  · rw [hl]
    exact (NewRow.of_own hown3 HR.out.wf).below (below_alloc _ _)

/-- The number in the next k bytes was read. -/
def ReadIt (B g k : Nat) (zs : List Int) (w : World) (e : Ending) (w' : World) : Prop :=
  e = .returned (.tuple #[.int .u64 (getB (zs.take k)), .bool true]) ∧ Eyes w' B g (zs.drop k) ∧ w.grownBy w' (some g)
/-- Behind j of k rounds. -/
def Reading (B g j : Nat) (zs : List Int) (w w' : World) : Prop := Eyes w' B g (zs.drop j) ∧ w.grownBy w' (some g)
theorem reading_step {B g j : Nat} {zs : List Int} {w w' : World} {A : Option Addr} {c : Nat} (hB : B ≤ g) (hh : Holds w' g 95 #[.slice A (zs.drop j).length c]) (hr : NewRow B w' .u8 A (zs.drop j).length c (zs.drop j))
    (hg : w.grownBy w' (some g)) (hj : j < zs.length) {v : Value} (hv : v = .slice (if c = 1 then A else A.map (·.add 1)) (zs.drop (j + 1)).length (c - 1)) : Reading B g (j + 1) zs w (w'.setCell ⟨g, 0, none⟩ v) := by
  subst hv
  have hs := grown_set w' g 0 (.slice (if c = 1 then A else A.map (·.add 1)) (zs.drop (j + 1)).length (c - 1))
  refine ⟨⟨hB, (if c = 1 then A else A.map (·.add 1)), c - 1, ?_, ?_⟩, grown_trans hg hs⟩
  · have := hh.put 0 (.slice (if c = 1 then A else A.map (·.add 1)) (zs.drop (j + 1)).length (c - 1))
    simpa using this
  · have h1 := (hr.cut (m := 1) (by rw [List.length_drop]; omega)).grown hs hh one_slice
    rw [List.drop_drop] at h1
    have e : (zs.drop j).length - 1 = (zs.drop (j + 1)).length := by simp only [List.length_drop]; omega
    rw [e] at h1
    exact h1
theorem map_add (b off : Nat) : (some (⟨b, off, none⟩ : Addr)).map (·.add 1) = some ⟨b, off + 1, none⟩ := rfl
theorem length_next {zs : List Int} {j L : Nat} (h : (zs.drop j).length = L) : (zs.drop (j + 1)).length = L - 1 := by
  rw [List.length_drop] at h ⊢
  omega
theorem Eyes.wf {w : World} {B g : Nat} {zs : List Int} (h : Eyes w B g zs) : ∀ n ∈ zs, (Lit.int .u8 n).wf = true := by
  obtain ⟨_, A, c, _, hr⟩ := h
  exact hr.row.wf
set_option maxHeartbeats 1000000 in
theorem num_yes (B g k : Nat) (zs : List Int) (w : World) (h : Eyes w B g zs) (hk : k ≤ 8) (hl : k ≤ zs.length) :
    Calls Try.prog 41 #[.pointer (some ⟨g, 0, none⟩), .int .i64 (k : Int)] w (ReadIt B g k zs w) := by
  have hleft := left_any B g zs w h
  have H := Lib.hid h
  clear h
  have hlen : zs.length ≤ 9223372036854775807 := by
    obtain ⟨_, A, c, _, hr⟩ := H.out
    have := hr.row.cap_le
    have := hr.row.max
    unfold maxLen at this
    omega
  go_enter Try.func41, Try.ntmps41
  go_wp2_with (go_at_call 43; refine hleft.mono ?_; rintro e w' ⟨rfl, rfl⟩)
  go_loopw [6, 20] (fun n i wr => ∃ j : Nat, j ≤ k ∧ i = .int .i64 j ∧ n = .int .u64 (getB (zs.take j)) ∧ Reading B g j zs w wr) (fun _ i _ => k - (intOf i).toNat)
  case atStart => exact ⟨0, Nat.zero_le _, rfl, rfl, H.out, World.grownBy.refl _ _⟩
  case round =>
    obtain ⟨j, hj, rfl, rfl, he, hgr⟩ := hrel
    by_cases hlt : j < k
    · obtain ⟨hB, A, c, hh, hr⟩ := he
      have hN := get_lt7 (zs.take j) (fun z hz => f8s H.out.wf z (List.mem_of_mem_take hz)) (by rw [List.length_take]; omega)
      have hnext := get_take zs j (by omega)
      obtain ⟨N, hNe⟩ : ∃ N, getB (zs.take j) = N := ⟨_, rfl⟩
      rw [hNe] at hN hnext
      obtain ⟨n1, n2⟩ := hN
      have hlen1 : 1 ≤ (zs.drop j).length := by rw [List.length_drop]; omega
      obtain ⟨b, off, hA, hBb, hb, hc⟩ := hr.block (by omega)
      have q0 := hc 0 (by omega)
      rw [List.getD_eq_getElem?_getD, List.getElem?_drop, Nat.add_zero, Nat.add_zero] at q0
      obtain ⟨X, hX⟩ : ∃ X, zs[j]?.getD 0 = X := ⟨_, rfl⟩
      obtain ⟨x1, x2⟩ := byte_at H.out.wf j
      rw [hX] at q0 hnext x1 x2
      have c0 := hh.cell 0
      have f0 := hh.soft 0
      have hcap := hr.row.cap_le
      have hmax := hr.row.max
      unfold maxLen at hmax
      obtain ⟨L, hL⟩ : ∃ L, (zs.drop j).length = L := ⟨_, rfl⟩
      rw [hL] at c0 hlen1 hcap
      rw [hA] at c0
      have hjn := u64_join n1 n2 x1 x2
      have Hh := Lib.hid hh
      have Hr := Lib.hid hr
      have HL := Lib.hid hL
      have HA := Lib.hid hA
      have HN := Lib.hid hnext
      rw [hNe]
      clear hh hr hL hA hnext hX hNe hc
      go_wp2
      go_roundw
      case rel =>
        refine ⟨j + 1, by omega, by go_num, by rw [HN.out], reading_step hB Hh.out Hr.out hgr (by omega) ?_⟩
        rw [HA.out, map_add, length_next HL.out]
      case measure => simp [intOf]; omega
    · obtain rfl : j = k := by omega
      have HE := Lib.hid he
      clear he
      go_wp2
      go_ret2
      exact ⟨rfl, HE.out, hgr⟩

/-- Is no number read? -/
def cannot (K : Int) (n : Nat) : Bool := decide (K < 0) || decide (8 < K) || decide ((n : Int) < K)
def ReadNo (w : World) (e : Ending) (w' : World) : Prop := e = .returned (.tuple #[.int .u64 0, .bool false]) ∧ w = w'
theorem num_no (B g : Nat) (K : Int) (zs : List Int) (w : World) (h : Eyes w B g zs) (hK : Fits K) (hc : cannot K zs.length = true) :
    Calls Try.prog 41 #[.pointer (some ⟨g, 0, none⟩), .int .i64 K] w (ReadNo w) := by
  have hleft := left_any B g zs w h
  obtain ⟨k1, k2⟩ := hK
  clear h
  simp only [cannot, Bool.or_eq_true, decide_eq_true_eq] at hc
  by_cases h1 : K < 0
  · clear hc
    go_enter Try.func41, Try.ntmps41
    go_wp2
    go_ret2
    exact ⟨rfl, rfl⟩
  by_cases h2 : 8 < K
  · clear hc
    go_enter Try.func41, Try.ntmps41
    go_wp2
    go_ret2
    exact ⟨rfl, rfl⟩
  obtain ⟨k, rfl⟩ := Int.eq_ofNat_of_zero_le (show 0 ≤ K by omega)
  have h3 : zs.length < k := by omega
  clear hc
  go_enter Try.func41, Try.ntmps41
  go_wp2_with (go_at_call 43; refine hleft.mono ?_; rintro e w' ⟨rfl, rfl⟩)
  go_ret2
  exact ⟨rfl, rfl⟩
theorem num_nil (w : World) :
    Calls Try.prog 41 #[.pointer none, .int .i64 1] w (ReadNo w) := by
  go_enter Try.func41, Try.ntmps41
  go_wp2_with (go_at_call 43; refine (left_nil _).mono ?_; rintro e w' ⟨rfl, rfl⟩)
  go_ret2
  exact ⟨rfl, rfl⟩
end Go.Proofs.Ytbdlpkkgfhknkaa
