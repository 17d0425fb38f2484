/- The document's Read of bytes whose sum is right. -/
import Derived.Test.YtbdlpkkgfhknkaaFrmL
import Derived.Test.YtbdlpkkgfhknkaaRowGrow
namespace Go.Proofs.Ytbdlpkkgfhknkaa
open Go.RowKit
set_option linter.unusedSimpArgs false

theorem okN_iff : ∀ (l : List (Int × Int)) (ns : List Int), ns.length = l.length → (okN (l.map (·.1)) ns = true ↔ ∀ i, (h : i < l.length) → ns[i]?.getD 0 ≤ mostF l[i].1)
  | [], ns, _ => by simp [okN]
  | x :: l, [], h => by simp at h
  | x :: l, n :: ns, h => by
    have ih := okN_iff l ns (by simpa using h)
    show (decide (n ≤ mostF x.1) && okN (l.map (·.1)) ns) = true ↔ _
    rw [Bool.and_eq_true, ih]
    constructor
    · rintro ⟨h0, h1⟩ i hi
      rcases i with _ | i
      · exact of_decide_eq_true h0
      · exact h1 i (by simpa using hi)
    · intro h0
      exact ⟨decide_eq_true (h0 0 (by simp)), fun i hi => h0 (i + 1) (by simpa using hi)⟩
/-- What comes of the numbers of a kind's fields. -/
def readOf (k : Int) (ks ns : List Int) : Option Fr × Int := if okN ks ns then (some (Fr.of k ns), 0) else (none, 3)
theorem readOf_no {k : Int} {ks ns : List Int} (h : okN ks ns = false) : readOf k ks ns = (none, 3) := by unfold readOf; rw [h]; rfl
theorem readOf_yes {k : Int} {ks ns : List Int} (h : okN ks ns = true) : readOf k ks ns = (some (Fr.of k ns), 0) := by unfold readOf; rw [if_pos h]
/-- The numbers that stand in the row of eight. -/
def eight (ns : List Int) (i : Nat) : Array Value := ((ns.take i ++ List.replicate (8 - i) 0).map (Value.int .i64)).toArray
theorem eight_at {ns : List Int} {i : Nat} (hi : i < 8) (hn : i ≤ ns.length) : (eight ns i)[i]? = some (.int .i64 0) := by
  unfold eight
  rw [List.getElem?_toArray, List.getElem?_map, List.getElem?_append_right (by rw [List.length_take]; omega), List.length_take, Nat.min_eq_left hn, Nat.sub_self]
  simp [List.getElem?_replicate]
  omega
theorem eight_next {ns : List Int} {i : Nat} (hi : i < 8) (hn : i < ns.length) : (eight ns i).setIfInBounds i (.int .i64 (ns[i]?.getD 0)) = eight ns (i + 1) := by
  unfold eight
  rw [List.setIfInBounds_toArray, ← List.map_set]
  congr 2
  rw [List.set_append_right _ _ (by rw [List.length_take]; omega), List.length_take, Nat.min_eq_left (by omega), Nat.sub_self, List.take_succ_eq_append_getElem hn, List.getElem?_eq_getElem hn, Option.getD_some]
  rw [show 8 - i = (8 - (i + 1)) + 1 by omega, List.replicate_succ, List.set_cons_zero, List.append_assoc]
  rfl
theorem int_apart {w : World} {wr : World} {A : Option Addr} {n c g : Nat} {xs : List Value} {cs : Array Value} (h : wr.ownsRow w.heap.size 69 1 (.slice A n c) n xs) (hh : Holds wr g 3 cs) (i : Nat) (u : Value) :
    (wr.setCell ⟨g, i, none⟩ u).ownsRow w.heap.size 69 1 (.slice A n c) n xs := h.kept (row := some g) (grown_set wr g i u) (.inr (hh.own_apart h (by decide)))
theorem Docs.far {w wr : World} {k : Int} {g : Nat} {cs : Array Value} (h : Docs w k wr) (hh : Holds wr g 3 cs) (hg : w.heap.size ≤ g) (i : Nat) (u : Value) : Docs w k (wr.setCell ⟨g, i, none⟩ u) :=
  ⟨h.below.setCell (p := ⟨g, i, none⟩) hg u, h.ans.far (h.ans.apart hh (by decide)) u, h.kind.far (h.kind.apart hh (by decide)) u⟩
theorem make_eight (W : World) : (Instr.makeSlice 87 (.int .i64 8) (.int .i64 8)).run Try.prog W = .ok (.slice (some ⟨W.heap.size, 0, none⟩) 8 8) (W.alloc (.cells #[.int .i64 0, .int .i64 0, .int .i64 0, .int .i64 0, .int .i64 0, .int .i64 0, .int .i64 0, .int .i64 0] 3)) := by kernel_rfl
theorem ok_third : ∀ {ks ns : List Int}, okN ks ns = true → ∀ {i : Nat} {x : Int}, ks[i]? = some 3 → ns[i]? = some x → x ≤ 65535
  | [], _, _, i, _, h, _ => by simp at h
  | _ :: _, [], _, i, _, _, h => by simp at h
  | k :: ks, n :: ns, h, i, x, hk, hx => by
    have h' : (decide (n ≤ mostF k) && okN ks ns) = true := h
    rw [Bool.and_eq_true] at h'
    rcases i with _ | i
    · have h0 : n ≤ mostF k := of_decide_eq_true h'.1
      simp at hk hx
      subst hk
      subst hx
      exact h0
    · exact ok_third h'.2 (by simpa using hk) (by simpa using hx)
theorem own_cell64 {w wr : World} {A : Option Addr} {m c j : Nat} {ns : List Int} (h : wr.ownsRow w.heap.size 69 1 (.slice A m c) m (ns.map (.int .u64))) (hj : j < m) :
    ∃ g, A = some ⟨g, 0, none⟩ ∧ wr.cell? ⟨g, j, none⟩ = some (.int .u64 (ns[j]?.getD 0)) := by
  obtain ⟨g, rfl, _, _⟩ := own_form h (by omega)
  exact ⟨g, rfl, own_cell h hj⟩
theorem u64_info : (Try.prog.info? 69).map (fun i => (i.zero, i.size, i.bytes)) = some (some (.int .u64 0), 1, 8) := by kernel_rfl
section
variable {w wr w' : World} {k : Int} {g : Nat} {l : List (Int × Int)}
theorem Over.grown (h : Over w k g l wr) {A : Option Addr} {n c : Nat} {xs : List Value} (ho : wr.ownsRow w.heap.size 69 1 (.slice A n c) n xs) (hg : wr.grownBy w' (Value.slice A n c).ownBlock) : Over w k g l w' :=
  ⟨⟨h.docs.below.grown hg h.docs.below.size (fun b hb => (ho.lt b hb).1), h.docs.ans.grown hg (Ne.symm (h.docs.ans.own_apart ho (by decide))), h.docs.kind.grown hg (Ne.symm (h.docs.kind.own_apart ho (by decide)))⟩, h.row.grown hg (Ne.symm (h.row.own_apart ho (by decide)))⟩
end
/-- The numbers that were read so far. -/
def Listed (w : World) (ns : List Int) (j : Nat) (v : Value) (wr : World) : Prop := ∃ A c, v = .slice A j c ∧ wr.ownsRow w.heap.size 69 1 (.slice A j c) j ((ns.take j).map (.int .u64))
theorem cut_row {w : World} {b off n c at_ Z : Nat} {zs : List Int} (hr : IntRow w .u8 (some ⟨b, off, none⟩) n c zs) (h : at_ + Z ≤ n) (hc : at_ < c) : IntRow w .u8 (some ⟨b, off + at_, none⟩) Z (c - at_) ((zs.drop at_).take Z) := by
  have h1 := (hr.cut (m := at_) (by omega)).pre (m := Z) (by omega)
  rw [if_neg (by omega)] at h1
  have e : (some (⟨b, off, none⟩ : Addr)).map (·.add at_) = some ⟨b, off + at_, none⟩ := by
    show some (Addr.add _ _) = _
    unfold Addr.add
    split <;> simp_all
  rw [e] at h1
  exact h1
set_option maxRecDepth 100000 in
set_option maxHeartbeats 8000000 in
theorem rread_yes (A : Option Addr) (n c : Nat) (k : Int) (zs : List Int) (w : World) (hr : IntRow w .u8 A n c (k :: zs)) (hn : n ≤ 64) (h1 : 1 ≤ k) (h2 : k ≤ 6) (hne : n = lenF (whats k) + 3) (hop : opens (k :: zs) = true) :
    Calls Try.prog 16 #[.slice A n c] w (Told (readVal (readOf k (whats k) (numsF (whats k) (zs.take (n - 3))))) w) := by
  have hl := hr.len_eq
  have hn0 : 0 < n := by simp at hl; omega
  have hsum := fun W (hW : Below w.heap.size w W) => rsum_any A n c (k :: zs) W (hr.below hW)
  rw [opens_zero hr.wf hop] at hsum
  have HR := Lib.hid hr
  have HW := Lib.hid hr.wf
  have hcap := hr.cap_le
  have hmx := hr.max
  unfold maxLen at hmx
  have hzl : zs.length + 1 = n := by simpa using hl
  obtain ⟨b, off, rfl, hb, hc⟩ := hr.cell hn0
  have c0 := hc 0 hn0
  simp only [Nat.add_zero, List.getD_cons_zero] at c0
  obtain ⟨l, hll⟩ : ∃ l, (Fr.of k []).fields = l := ⟨_, rfl⟩
  have hlw : l.map (·.1) = whats k := by rw [← hll, Fr.fields_whats, Fr.of_kind h1 h2]
  have hf := fun W (hd : Docs w k W) => blank_fields h1 h2 hll W hd
  have hlen := lenF_le k
  have hlen1 : 1 ≤ lenF (whats k) := by rcases kind_cases h1 h2 with rfl | rfl | rfl | rfl | rfl | rfl <;> decide
  have hm : l.length ≤ 8 := by rw [← hll]; rcases kind_cases h1 h2 with rfl | rfl | rfl | rfl | rfl | rfl <;> decide
  have hks : ∀ x ∈ l, 1 ≤ x.1 ∧ x.1 ≤ 4 := by rw [← hll]; exact Fr.fields_range _
  rw [← hlw] at hne hlen hlen1 ⊢
  obtain ⟨m, hmm⟩ : ∃ m, l.length = m := ⟨_, rfl⟩
  obtain ⟨L, hL⟩ : ∃ L, lenF (l.map (·.1)) = L := ⟨_, rfl⟩
  rw [hmm] at hm
  rw [hL] at hne hlen hlen1
  simp only [hmm] at hf
  have hn3 : n - 3 = L := by omega
  rw [hn3]
  have hns : ∀ j, (hj : j < l.length) → (numsF (l.map (·.1)) (zs.take L))[j]? = some (getB ((zs.drop (lenF ((l.take j).map (·.1)))).take (sizeF l[j].1))) := fun j hj => by
    rw [nums_at _ _ j (by simpa using hj), ← List.map_take, List.getElem_map, take_drop_take]
    rw [← hL, ← lenF_take hj]
    exact lenF_take_le l _
  obtain ⟨ns, hnn⟩ : ∃ ns, numsF (l.map (·.1)) (zs.take L) = ns := ⟨_, rfl⟩
  rw [hnn]
  simp only [hnn] at hns
  have hnl : ns.length = m := by rw [← hnn, nums_length, List.length_map, hmm]
  have hpos : ∀ x ∈ ns, 0 ≤ x := by rw [← hnn]; exact nums_pos _ _ fun z hz => f8s hr.wf z (List.mem_cons_of_mem _ (List.mem_of_mem_take hz))
  have HNS := Lib.hid hns
  have HM := Lib.hid hmm
  have HL := Lib.hid hL
  have HZ := Lib.hid plain_size2
  have E1 : Hid (((3 : Int) + (L : Int) == 3) = false) := Lib.hid (by simp; omega)
  have E2 : Hid (((3 : Int) + (L : Int) != (n : Int)) = false) := Lib.hid (by simp; omega)
  have HKS := Lib.hid hks
  have HLW := Lib.hid hlw
  have HNL := Lib.hid hnl
  have HPOS := Lib.hid hpos
  have HZL := Lib.hid hzl
  clear hc hr hl hmm hL hlw hll hks hnl hpos hzl hns hnn hn3 hop
  obtain rfl := hne
  go_enter Try.func16, Try.ntmps16
  have c1 := World.cell?_alloc_lt w (.cells #[.int .i64 0, .int .i64 0, .int .i64 0, .int .i64 0, .int .u16 0, .int .u16 0, .int .i64 0, .int .i64 0, .int .i64 0, .int .i64 0, .int .i64 0, .int .i64 0, .int .i64 0, .int .i64 0] 24) ⟨b, off, none⟩ hb
  go_wp2_with (go_at_call 28; refine (hf _ (Docs.start w k)).mono ?_; rintro e w1 ⟨g, rfl, ho1, hb1⟩; have HO1 := Lib.hid ho1; clear ho1)
  clear c1 c0
  go_loopw [5, 33] (fun t i wr => ∃ j : Nat, j ≤ m ∧ i = .int .i64 j ∧ t = .int .i64 (3 + (lenF ((l.take j).map (·.1)) : Int)) ∧ Over w k g l wr) (fun _ i _ => m - (intOf i).toNat)
  case atStart => exact ⟨0, Nat.zero_le _, rfl, rfl, HO1.out⟩
  case round =>
    obtain ⟨j, hj, rfl, rfl, hov⟩ := hrel
    have HO := Lib.hid hov
    clear hov HO1
    have hle : lenF ((l.take j).map (·.1)) ≤ L := by rw [← HL.out]; exact lenF_take_le l j
    by_cases hlt : j < m
    · have hjl : j < l.length := by rw [HM.out]; exact hlt
      obtain ⟨c0, c1, c2⟩ := HO.out.cells hjl
      have hT := Lib.hid (lenF_take hjl)
      have hz := size_le l[j].1
      obtain ⟨X, hX⟩ : ∃ X, l[j] = X := ⟨_, rfl⟩
      rw [hX] at c0 c1 c2 hT hz
      clear hX
      obtain ⟨T, hTT⟩ : ∃ T, lenF ((l.take j).map (·.1)) = T := ⟨_, rfl⟩
      rw [hTT] at hT hle
      rw [hTT]
      clear hTT
      obtain ⟨Z, hZ⟩ : ∃ Z, sizeF X.1 = Z := ⟨_, rfl⟩
      rw [hZ] at c0 hT hz
      clear hZ
      go_wp2
      go_roundw
      case rel => exact ⟨j + 1, by omega, by go_num, by rw [hT.out]; go_num, HO.out.alloc _⟩
      case measure => simp [intOf]; omega
    · have hT : Hid (lenF ((l.take j).map (·.1)) = L) := by
        rw [List.take_of_length_le (by have := HM.out; omega)]
        exact HL
      have e1 := E1.out
      have e2 := E2.out
      rw [hT.out]
      go_upto_region 18 with (go_at_call 19; refine (hsum _ HO.out.docs.below).mono ?_; rintro e w' ⟨rfl, rfl⟩)
      refine wp_region_lit ?_
      refine wpList_load_row rfl 24 (.tmp 4) rfl (w.heap.size + 1) rfl 24 #[.int .i64 k, .int .i64 0, .int .i64 0, .int .i64 0, .int .u16 0, .int .u16 0, .int .i64 0, .int .i64 0, .int .i64 0, .int .i64 0, .int .i64 0, .int .i64 0, .int .i64 0, .int .i64 0] (0, 0) _ HO.out.docs.kind Try.underlying24 rfl HZ.out ?_
      go_wp2_with (go_at_call 28; refine (hf _ HO.out.docs).mono ?_; rintro e w2 ⟨g2, rfl, ho2, hb2⟩; have HOw2 := Lib.hid ho2; clear ho2)
      clear hle hlt hT e1 e2 hj
      go_loopw [8, 9, 58] (fun v t i wr => ∃ j at_ : Nat, j ≤ m ∧ i = .int .i64 j ∧ t = .int .i64 at_ ∧ at_ = 1 + lenF ((l.take j).map (·.1)) ∧ Over w k g2 l wr ∧ Listed w ns j v wr) (fun _ _ i _ => m - (intOf i).toNat)
      case atStart => exact ⟨0, 1, Nat.zero_le _, rfl, rfl, rfl, HOw2.out, none, 0, rfl, rfl, .inl ⟨rfl, rfl⟩⟩
      case round =>
        obtain ⟨j, at_, hj, rfl, rfl, hat, hov, A2, c2, rfl, hlist⟩ := hrel
        have HO := Lib.hid hov
        have HI := Lib.hid hlist
        clear hov hlist HOw2
        have hle : lenF ((l.take j).map (·.1)) ≤ L := by rw [← HL.out]; exact lenF_take_le l j
        by_cases hlt : j < m
        · have hjl : j < l.length := by rw [HM.out]; exact hlt
          obtain ⟨q0, q1, q2⟩ := HO.out.cells hjl
          have hT := Lib.hid (lenF_take hjl)
          have hle2 : lenF ((l.take (j + 1)).map (·.1)) ≤ L := by rw [← HL.out]; exact lenF_take_le l _
          rw [hT.out] at hle2
          have hN := Lib.hid (HNS.out j hjl)
          have hz := size_le l[j].1
          obtain ⟨X, hX⟩ : ∃ X, l[j] = X := ⟨_, rfl⟩
          rw [hX] at q0 q1 q2 hT hz hle2 hN
          clear hX
          obtain ⟨T, hTT⟩ : ∃ T, lenF ((l.take j).map (·.1)) = T := ⟨_, rfl⟩
          rw [hTT] at hT hle hat hle2 hN
          clear hTT
          obtain ⟨Z, hZ⟩ : ∃ Z, sizeF X.1 = Z := ⟨_, rfl⟩
          rw [hZ] at q0 hT hz hle2 hN
          clear hZ
          have hcap := HR.out.cap_le
          have hcut := cut_row HR.out (at_ := at_) (Z := Z) (by omega) (by omega)
          have hdrop : (k :: zs).drop at_ = zs.drop T := by rw [hat, Nat.add_comm]; rfl
          rw [hdrop] at hcut
          obtain ⟨N, hNN⟩ : ∃ N, getB ((zs.drop T).take Z) = N := ⟨_, rfl⟩
          rw [hNN] at hN
          have hget : ∀ W : World, Below w.heap.size w W → Calls Try.prog 35 #[.slice (some ⟨b, off + at_, none⟩) Z (c - at_)] W fun e w' => e = .returned (.int .u64 N) ∧ W = w' := fun W hW => (get_any _ _ _ _ W (hcut.below hW) hz.2).mono fun e w' ⟨he, hw⟩ => ⟨by rw [he, hNN], hw⟩
          have hwf : (Lit.int .u64 N).wf = true := by
            have hg := get_lt ((zs.drop T).take Z) (fun z hz => f8s HW.out z (List.mem_cons_of_mem _ (List.mem_of_mem_drop (List.mem_of_mem_take hz)))) (by rw [List.length_take]; omega)
            rw [hNN] at hg
            exact WalkArith.wf_u64 (by omega)
          have HWF := Lib.hid hwf
          have HG := Lib.hid hget
          have HAT := Lib.hid hat
          have hat1 : at_ + Z ≤ L + 1 := by omega
          obtain ⟨z1, z2⟩ := hz
          clear hNN hcut hdrop hwf hget hat
          obtain ⟨i1, hi1, hy0, hy1, hy2⟩ := info_parts u64_info
          have Y2 := Lib.hid hy2
          have Y1 := Lib.hid hy1
          have Y0 := Lib.hid hy0
          clear hy0 hy1 hy2
          have HROW : Hid (IntRow ((wr.alloc (.cells #[.int .i64 Z, .int .i64 X.2, .int .i64 (mostF X.1)] 76)).alloc (.cells #[.int .u64 N] 69)) .u64 (some ⟨wr.heap.size + 1, 0, none⟩) 1 1 [N]) := by
            have h := IntRow.laid (wr.alloc (.cells #[.int .i64 Z, .int .i64 X.2, .int .i64 (mostF X.1)] 76)) 69 .u64 [N] 1 rfl (by simp [maxLen]) (by intro x hx; simp only [List.mem_cons, List.not_mem_nil, or_false] at hx; rw [hx]; exact HWF.out)
            rw [size_alloc] at h
            exact Lib.hid h
          go_wp2_with (first
            | (go_at_call 35; refine (HG.out _ (HO.out.alloc _).docs.below).mono ?_; rintro e w' ⟨rfl, rfl⟩)
            | (at_builtin; refine wpList_append_grow _ rfl (.tmp 62) (.tmp 71) _ rfl w.heap.size 69 i1 _ 8 Try.underlying85 hi1 Y0.out Y1.out Y2.out rfl _ j ((ns.take j).map (.int .u64)) rfl ((HI.out.alloc _).alloc _) .u64 _ 1 1 [N] rfl HROW.out (by unfold maxLen; omega) (by omega) ((HO.out.alloc _).alloc _).docs.below.size ?_; intro A3 c3 w3 hown3 hgr3; have hvar := (Holds.alloc (Holds.new wr 76 #[.int .i64 Z, .int .i64 X.2, .int .i64 (mostF X.1)]) (.cells #[.int .u64 N] 69)).grown hgr3 (Ne.symm ((Holds.alloc (Holds.new wr 76 #[.int .i64 Z, .int .i64 X.2, .int .i64 (mostF X.1)]) (.cells #[.int .u64 N] 69)).own_apart ((HI.out.alloc _).alloc _) (by decide))); have k0 := hvar.cell 0; clear hvar))
          go_roundw
          case rel => exact ⟨j + 1, at_ + Z, by omega, by go_num, by go_num, by rw [HAT.out, hT.out]; omega, ((HO.out.alloc _).alloc _).grown ((HI.out.alloc _).alloc _) hgr3, A3, c3, rfl, by rw [List.take_add_one, hN.out, List.map_append]; exact hown3⟩
          case measure => simp [intOf]; omega
        · obtain rfl : j = m := by omega
          have HI2 : Hid (wr.ownsRow w.heap.size 69 1 (.slice A2 j c2) j (ns.map (.int .u64))) := by
            have h := HI.out
            rw [List.take_of_length_le (by rw [HNL.out]; exact Nat.le_refl _)] at h
            exact Lib.hid h
          clear hle hat hlt HI
          go_upto_region 24 with (go_at_call 19; refine (hsum _ HO.out.docs.below).mono ?_; rintro e w' ⟨rfl, rfl⟩)
          refine wp_region_lit ?_
          refine wpList_load_row rfl 24 (.tmp 4) rfl (w.heap.size + 1) rfl 24 #[.int .i64 k, .int .i64 0, .int .i64 0, .int .i64 0, .int .u16 0, .int .u16 0, .int .i64 0, .int .i64 0, .int .i64 0, .int .i64 0, .int .i64 0, .int .i64 0, .int .i64 0, .int .i64 0] (0, 0) _ HO.out.docs.kind Try.underlying24 rfl HZ.out ?_
          go_wp2_with (go_at_call 28; refine (hf _ HO.out.docs).mono ?_; rintro e w5 ⟨g3, rfl, ho2, hb2⟩; have HOw5 := Lib.hid ho2; clear ho2)
          have HI3 := Lib.hid (own_keep HI2.out hb2)
          go_loopw [81] (fun i wr => ∃ i0 : Nat, i0 ≤ j ∧ i = .int .i64 i0 ∧ (∀ i, (h : i < l.length) → i < i0 → ns[i]?.getD 0 ≤ mostF l[i].1) ∧ Over w k g3 l wr ∧ wr.ownsRow w.heap.size 69 1 (.slice A2 j c2) j (ns.map (.int .u64))) (fun i _ => j - (intOf i).toNat)
          case atStart => exact ⟨0, Nat.zero_le _, rfl, fun i _ h => absurd h (by omega), HOw5.out, HI3.out⟩
          case round =>
            obtain ⟨i0, hi0, rfl, hok, hov, hlist⟩ := hrel
            have HO := Lib.hid hov
            have HI := Lib.hid hlist
            have HOK := Lib.hid hok
            clear hov hlist hok HOw5 HI3 HI2
            by_cases hlt : i0 < j
            · have hjl : i0 < l.length := by rw [HM.out]; exact hlt
              obtain ⟨q0, q1, q2⟩ := HO.out.cells hjl
              have hM : 0 ≤ mostF l[i0].1 ∧ mostF l[i0].1 ≤ 1125899906842624 := by
                have h := HKS.out l[i0] (List.getElem_mem hjl)
                have : l[i0].1 = 1 ∨ l[i0].1 = 2 ∨ l[i0].1 = 3 ∨ l[i0].1 = 4 := by omega
                rcases this with h | h | h | h <;> rw [h] <;> simp [mostF]
              obtain ⟨gl, rfl, q3⟩ := own_cell64 HI.out hlt
              have q4 := World.cell?_alloc_lt wr (.cells #[.int .i64 (sizeF l[i0].1 : Int), .int .i64 l[i0].2, .int .i64 (mostF l[i0].1)] 76) ⟨gl, i0, none⟩ (block_lt q3)
              have hN : 0 ≤ ns[i0]?.getD 0 := by
                rw [List.getElem?_eq_getElem (by have := HNL.out; omega)]
                exact HPOS.out _ (List.getElem_mem _)
              obtain ⟨X, hX⟩ : ∃ X, l[i0] = X := ⟨_, rfl⟩
              rw [hX] at q0 q1 q2 hM q4
              have HX := Lib.hid hX
              obtain ⟨N, hNN⟩ : ∃ N, ns[i0]?.getD 0 = N := ⟨_, rfl⟩
              rw [hNN] at q3 hN
              obtain ⟨M, hMM⟩ : ∃ M, mostF X.1 = M := ⟨_, rfl⟩
              rw [hMM] at q2 hM q4
              obtain ⟨m1, m2⟩ := hM
              have HNN := Lib.hid hNN
              have HMM := Lib.hid hMM
              have b1 : (0 : Int) ≤ (i0 : Int) := by omega
              have b2 : (i0 : Int) < (j : Int) := by omega
              rw [q3] at q4
              clear hX hNN hMM q3
              by_cases hgt : M < N
              · have e5 : decide (M < N) = true := by simpa using hgt
                go_wp2
                go_quiet (fail)
                go_upto_region 28 with (fail)
                refine wp_region_lit ?_
                refine list_yield (.agg Z14) rfl (by go_simp) ?_
                refine wpList_store_row rfl 24 (.tmp 2) (.tmp 94) rfl w.heap.size Z14 rfl rfl 24 Z14 ((HO.out.alloc _).on (below_drewN (Below.refl _ _) _)).docs.ans HZ.out rfl z14_one ?_
                go_wp2
                have hno : okN (l.map (·.1)) ns = false := by
                  rcases h : okN (l.map (·.1)) ns with _ | _
                  · exact h
                  · have h3 := (okN_iff l ns (by rw [HNL.out, HM.out])).1 h i0 hjl
                    rw [HNN.out, HX.out, HMM.out] at h3
                    omega
                rw [readOf_no hno]
                exact read_end .zero _ rfl rfl rfl rfl (((HO.out.alloc _).on (below_drewN (Below.refl _ _) _)).docs.put _).1 (((HO.out.alloc _).on (below_drewN (Below.refl _ _) _)).docs.put _).2
              · have e5 : decide (M < N) = false := by simpa using hgt
                go_wp2
                go_quiet (fail)
                go_wp2
                go_roundw
                case rel => exact ⟨i0 + 1, by omega, by go_num, fun i hi h => by
                  by_cases hii : i = i0
                  · subst hii
                    rw [HNN.out, HX.out, HMM.out]
                    omega
                  · exact HOK.out i hi (by omega), (HO.out.alloc _).on (below_drewN (Below.refl _ _) _), own_keep (HI.out.alloc _) (below_drewN (Below.refl _ _) _)⟩
                case measure => simp [intOf]; omega
            · obtain rfl : i0 = j := by omega
              have hyes := (okN_iff l ns (by rw [HNL.out, HM.out])).2 fun i hi => HOK.out i hi (by have := HM.out; omega)
              have HMAX : Hid (∀ i, i < i0 → ns[i]?.getD 0 ≤ 1125899906842624) := Lib.hid (fun i hi => by
                have hil : i < l.length := by rw [HM.out]; exact hi
                have h := HOK.out i hil hi
                have hks := HKS.out l[i] (List.getElem_mem hil)
                have : l[i].1 = 1 ∨ l[i].1 = 2 ∨ l[i].1 = 3 ∨ l[i].1 = 4 := by omega
                rcases this with h5 | h5 | h5 | h5 <;> rw [h5] at h <;> simp [mostF] at h <;> omega)
              have HY := Lib.hid hyes
              have hmk := make_eight
              clear hyes hlt hi0
              go_wp2
              clear hmk
              have HV : Hid (Holds (wr.alloc (.cells #[.int .i64 0, .int .i64 0, .int .i64 0, .int .i64 0, .int .i64 0, .int .i64 0, .int .i64 0, .int .i64 0] 3)) wr.heap.size 3 (eight ns 0)) := Lib.hid (Holds.new _ _ _)
              have HS : Hid (w.heap.size ≤ wr.heap.size) := Lib.hid HO.out.docs.below.size
              have HD := Lib.hid (HO.out.docs.alloc (.cells #[.int .i64 0, .int .i64 0, .int .i64 0, .int .i64 0, .int .i64 0, .int .i64 0, .int .i64 0, .int .i64 0] 3))
              have HI4 := Lib.hid (HI.out.alloc (.cells #[.int .i64 0, .int .i64 0, .int .i64 0, .int .i64 0, .int .i64 0, .int .i64 0, .int .i64 0, .int .i64 0] 3))
              obtain ⟨gv, hgv⟩ : ∃ gv, wr.heap.size = gv := ⟨_, rfl⟩
              rw [hgv] at HV HS
              rw [hgv]
              clear HI HO hgv HOK
              go_loopw [99] (fun i wr => ∃ i1 : Nat, i1 ≤ i0 ∧ i = .int .i64 i1 ∧ Docs w k wr ∧ wr.ownsRow w.heap.size 69 1 (.slice A2 i0 c2) i0 (ns.map (.int .u64)) ∧ Holds wr gv 3 (eight ns i1)) (fun i _ => i0 - (intOf i).toNat)
              case atStart => exact ⟨0, Nat.zero_le _, rfl, HD.out, HI4.out, HV.out⟩
              case round =>
                obtain ⟨i1, hi1, rfl, hdoc, hlist, hv⟩ := hrel
                have HO := Lib.hid hdoc
                have HI := Lib.hid hlist
                have HV1 := Lib.hid hv
                clear hdoc hlist hv HD HI4 HV
                by_cases hlt : i1 < i0
                · obtain ⟨gl, rfl, q3⟩ := own_cell64 HI.out hlt
                  have hN : 0 ≤ ns[i1]?.getD 0 := by
                    rw [List.getElem?_eq_getElem (by have := HNL.out; omega)]
                    exact HPOS.out _ (List.getElem_mem _)
                  have hM := HMAX.out i1 hlt
                  have hv1 := (HV1.out.cell i1).trans (eight_at (by omega) (by have := HNL.out; omega))
                  have hf1 := HV1.out.soft i1
                  have HE := Lib.hid (eight_next (ns := ns) (i := i1) (by omega) (by have := HNL.out; omega))
                  obtain ⟨N, hNN⟩ : ∃ N, ns[i1]?.getD 0 = N := ⟨_, rfl⟩
                  rw [hNN] at q3 hN hM HE
                  have b1 : (0 : Int) ≤ (i1 : Int) := by omega
                  have b2 : (i1 : Int) < 8 := by omega
                  clear hNN
                  go_wp2
                  go_roundw
                  case rel => exact ⟨i1 + 1, by omega, by go_num, HO.out.far HV1.out HS.out _ _, int_apart HI.out HV1.out _ _, by rw [← HE.out]; exact HV1.out.put _ _⟩
                  case measure => simp [intOf]; omega
                · obtain rfl : i1 = i0 := by omega
                  have kc := HO.out.kind.cell 0
                  rcases kind_cases h1 h2 with rfl | rfl | rfl | rfl | rfl | rfl
                  · have hl6 : ns.length = 6 := by
                      have h5 := congrArg List.length HLW.out
                      rw [List.length_map, HM.out] at h5
                      rw [HNL.out, h5]
                      rfl
                    obtain rfl : i1 = 6 := by rw [← hl6]; exact HNL.out.symm
                    obtain ⟨x0, x1, x2, x3, x4, x5, rfl⟩ : ∃ x0 x1 x2 x3 x4 x5 : Int, ns = [x0, x1, x2, x3, x4, x5] := by
                      match ns, hl6 with
                      | [y0, y1, y2, y3, y4, y5], _ => exact ⟨_, _, _, _, _, _, rfl⟩
                    have hb := HY.out
                    rw [HLW.out] at hb
                    have HB := Lib.hid hb
                    have hx2 : x2 ≤ 65535 := ok_third hb (i := 2) rfl rfl
                    have hy2 : 0 ≤ x2 := HPOS.out x2 (by simp)
                    have hw2 : IntKind.u16.wrap x2 = x2 := by rw [wrap_u16]; omega
                    have hx3 : x3 ≤ 65535 := ok_third hb (i := 3) rfl rfl
                    have hy3 : 0 ≤ x3 := HPOS.out x3 (by simp)
                    have hw3 : IntKind.u16.wrap x3 = x3 := by rw [wrap_u16]; omega
                    have d0 : wr.cell? ⟨gv, 0, none⟩ = some (.int .i64 x0) := HV1.out.cell 0
                    have d1 : wr.cell? ⟨gv, 1, none⟩ = some (.int .i64 x1) := HV1.out.cell 1
                    have d2 : wr.cell? ⟨gv, 2, none⟩ = some (.int .i64 x2) := HV1.out.cell 2
                    have d3 : wr.cell? ⟨gv, 3, none⟩ = some (.int .i64 x3) := HV1.out.cell 3
                    have d4 : wr.cell? ⟨gv, 4, none⟩ = some (.int .i64 x4) := HV1.out.cell 4
                    have d5 : wr.cell? ⟨gv, 5, none⟩ = some (.int .i64 x5) := HV1.out.cell 5
                    clear hb hl6
                    go_wp2
                    go_still_tail 21, (by kernel_rfl)
                    change wpList _ _ _ _ _ wr.drew
                    refine wpList_store_row rfl 24 (.tmp 2) (.tmp 134) rfl w.heap.size (#[.int .i64 1, .int .i64 x0, .int .i64 0, .int .i64 x1, .int .u16 x2, .int .u16 x3, .int .i64 x4, .int .i64 x5, .int .i64 0, .int .i64 0, .int .i64 0, .int .i64 0, .int .i64 0, .int .i64 0]) rfl rfl 24 Z14 (HO.out.drewN 1).ans HZ.out rfl (by simp [Value.oneCell']) ?_
                    go_wp2
                    rw [readOf_yes HY.out]
                    exact read_end (Fr.plain (.sync x0 x1 x2 x3 x4 x5)) 0 rfl rfl rfl rfl ((HO.out.drewN 1).put _).1 ((HO.out.drewN 1).put _).2
                  · have hl6 : ns.length = 2 := by
                      have h5 := congrArg List.length HLW.out
                      rw [List.length_map, HM.out] at h5
                      rw [HNL.out, h5]
                      rfl
                    obtain rfl : i1 = 2 := by rw [← hl6]; exact HNL.out.symm
                    obtain ⟨x0, x1, rfl⟩ : ∃ x0 x1 : Int, ns = [x0, x1] := by
                      match ns, hl6 with
                      | [y0, y1], _ => exact ⟨_, _, rfl⟩
                    have hb := HY.out
                    rw [HLW.out] at hb
                    have HB := Lib.hid hb
                    have d0 : wr.cell? ⟨gv, 0, none⟩ = some (.int .i64 x0) := HV1.out.cell 0
                    have d1 : wr.cell? ⟨gv, 1, none⟩ = some (.int .i64 x1) := HV1.out.cell 1
                    clear hb hl6
                    go_wp2
                    go_still_tail 7, (by kernel_rfl)
                    change wpList _ _ _ _ _ wr.drew
                    refine wpList_store_row rfl 24 (.tmp 2) (.tmp 143) rfl w.heap.size (#[.int .i64 2, .int .i64 x0, .int .i64 0, .int .i64 0, .int .u16 0, .int .u16 0, .int .i64 0, .int .i64 0, .int .i64 x1, .int .i64 0, .int .i64 0, .int .i64 0, .int .i64 0, .int .i64 0]) rfl rfl 24 Z14 (HO.out.drewN 1).ans HZ.out rfl (by simp [Value.oneCell']) ?_
                    go_wp2
                    rw [readOf_yes HY.out]
                    exact read_end (Fr.plain (.find x0 x1)) 0 rfl rfl rfl rfl ((HO.out.drewN 1).put _).1 ((HO.out.drewN 1).put _).2
                  · have hl6 : ns.length = 1 := by
                      have h5 := congrArg List.length HLW.out
                      rw [List.length_map, HM.out] at h5
                      rw [HNL.out, h5]
                      rfl
                    obtain rfl : i1 = 1 := by rw [← hl6]; exact HNL.out.symm
                    obtain ⟨x0, rfl⟩ : ∃ x0 : Int, ns = [x0] := by
                      match ns, hl6 with
                      | [y0], _ => exact ⟨_, rfl⟩
                    have hb := HY.out
                    rw [HLW.out] at hb
                    have HB := Lib.hid hb
                    have d0 : wr.cell? ⟨gv, 0, none⟩ = some (.int .i64 x0) := HV1.out.cell 0
                    clear hb hl6
                    go_upto_region 42 with (fail)
                    refine wp_region_lit ?_
                    refine list_yield (.slice (some ⟨gv, 0, none⟩) 8 8) rfl (by go_simp) ?_
                    refine list_yield (.pointer (some ⟨gv, 0, none⟩)) rfl (by go_simp) ?_
                    refine list_yield (.int .i64 x0) rfl (by go_simp) ?_
                    refine list_yield (.agg #[.int .i64 3, .int .i64 x0, .int .i64 0, .int .i64 0, .int .u16 0, .int .u16 0, .int .i64 0, .int .i64 0, .int .i64 0, .int .i64 0, .int .i64 0, .int .i64 0, .int .i64 0, .int .i64 0]) rfl (by go_simp) ?_
                    refine wpList_store_row rfl 24 (.tmp 2) (.tmp 149) rfl w.heap.size (#[.int .i64 3, .int .i64 x0, .int .i64 0, .int .i64 0, .int .u16 0, .int .u16 0, .int .i64 0, .int .i64 0, .int .i64 0, .int .i64 0, .int .i64 0, .int .i64 0, .int .i64 0, .int .i64 0]) rfl rfl 24 Z14 HO.out.ans HZ.out rfl (by simp [Value.oneCell']) ?_
                    go_wp2
                    rw [readOf_yes HY.out]
                    exact read_end (Fr.plain (.want x0)) 0 rfl rfl rfl rfl (HO.out.put _).1 (HO.out.put _).2
                  · have hl6 : ns.length = 3 := by
                      have h5 := congrArg List.length HLW.out
                      rw [List.length_map, HM.out] at h5
                      rw [HNL.out, h5]
                      rfl
                    obtain rfl : i1 = 3 := by rw [← hl6]; exact HNL.out.symm
                    obtain ⟨x0, x1, x2, rfl⟩ : ∃ x0 x1 x2 : Int, ns = [x0, x1, x2] := by
                      match ns, hl6 with
                      | [y0, y1, y2], _ => exact ⟨_, _, _, rfl⟩
                    have hb := HY.out
                    rw [HLW.out] at hb
                    have HB := Lib.hid hb
                    have d0 : wr.cell? ⟨gv, 0, none⟩ = some (.int .i64 x0) := HV1.out.cell 0
                    have d1 : wr.cell? ⟨gv, 1, none⟩ = some (.int .i64 x1) := HV1.out.cell 1
                    have d2 : wr.cell? ⟨gv, 2, none⟩ = some (.int .i64 x2) := HV1.out.cell 2
                    clear hb hl6
                    go_wp2
                    go_still_tail 10, (by kernel_rfl)
                    change wpList _ _ _ _ _ wr.drew
                    refine wpList_store_row rfl 24 (.tmp 2) (.tmp 161) rfl w.heap.size (#[.int .i64 4, .int .i64 x0, .int .i64 x1, .int .i64 0, .int .u16 0, .int .u16 0, .int .i64 0, .int .i64 0, .int .i64 0, .int .i64 x2, .int .i64 0, .int .i64 0, .int .i64 0, .int .i64 0]) rfl rfl 24 Z14 (HO.out.drewN 1).ans HZ.out rfl (by simp [Value.oneCell']) ?_
                    go_wp2
                    rw [readOf_yes HY.out]
                    exact read_end (Fr.plain (.pulse x0 x1 x2)) 0 rfl rfl rfl rfl ((HO.out.drewN 1).put _).1 ((HO.out.drewN 1).put _).2
                  · have hl6 : ns.length = 8 := by
                      have h5 := congrArg List.length HLW.out
                      rw [List.length_map, HM.out] at h5
                      rw [HNL.out, h5]
                      rfl
                    obtain rfl : i1 = 8 := by rw [← hl6]; exact HNL.out.symm
                    obtain ⟨x0, x1, x2, x3, x4, x5, x6, x7, rfl⟩ : ∃ x0 x1 x2 x3 x4 x5 x6 x7 : Int, ns = [x0, x1, x2, x3, x4, x5, x6, x7] := by
                      match ns, hl6 with
                      | [y0, y1, y2, y3, y4, y5, y6, y7], _ => exact ⟨_, _, _, _, _, _, _, _, rfl⟩
                    have hb := HY.out
                    rw [HLW.out] at hb
                    have HB := Lib.hid hb
                    have hx6 : x6 ≤ 65535 := ok_third hb (i := 6) rfl rfl
                    have hy6 : 0 ≤ x6 := HPOS.out x6 (by simp)
                    have hw6 : IntKind.u16.wrap x6 = x6 := by rw [wrap_u16]; omega
                    have d0 : wr.cell? ⟨gv, 0, none⟩ = some (.int .i64 x0) := HV1.out.cell 0
                    have d1 : wr.cell? ⟨gv, 1, none⟩ = some (.int .i64 x1) := HV1.out.cell 1
                    have d2 : wr.cell? ⟨gv, 2, none⟩ = some (.int .i64 x2) := HV1.out.cell 2
                    have d3 : wr.cell? ⟨gv, 3, none⟩ = some (.int .i64 x3) := HV1.out.cell 3
                    have d4 : wr.cell? ⟨gv, 4, none⟩ = some (.int .i64 x4) := HV1.out.cell 4
                    have d5 : wr.cell? ⟨gv, 5, none⟩ = some (.int .i64 x5) := HV1.out.cell 5
                    have d6 : wr.cell? ⟨gv, 6, none⟩ = some (.int .i64 x6) := HV1.out.cell 6
                    have d7 : wr.cell? ⟨gv, 7, none⟩ = some (.int .i64 x7) := HV1.out.cell 7
                    clear hb hl6
                    go_wp2
                    go_still_tail 26, (by kernel_rfl)
                    change wpList _ _ _ _ _ wr.drew
                    refine wpList_store_row rfl 24 (.tmp 2) (.tmp 189) rfl w.heap.size (#[.int .i64 5, .int .i64 x0, .int .i64 x1, .int .i64 x5, .int .u16 x6, .int .u16 0, .int .i64 x7, .int .i64 0, .int .i64 0, .int .i64 x2, .int .i64 x3, .int .i64 x4, .int .i64 0, .int .i64 0]) rfl rfl 24 Z14 (HO.out.drewN 1).ans HZ.out rfl (by simp [Value.oneCell']) ?_
                    go_wp2
                    rw [readOf_yes HY.out]
                    exact read_end (Fr.plain (.reply x0 x1 x2 x3 x4 x5 x6 x7)) 0 rfl rfl rfl rfl ((HO.out.drewN 1).put _).1 ((HO.out.drewN 1).put _).2
                  · have hl6 : ns.length = 6 := by
                      have h5 := congrArg List.length HLW.out
                      rw [List.length_map, HM.out] at h5
                      rw [HNL.out, h5]
                      rfl
                    obtain rfl : i1 = 6 := by rw [← hl6]; exact HNL.out.symm
                    obtain ⟨x0, x1, x2, x3, x4, x5, rfl⟩ : ∃ x0 x1 x2 x3 x4 x5 : Int, ns = [x0, x1, x2, x3, x4, x5] := by
                      match ns, hl6 with
                      | [y0, y1, y2, y3, y4, y5], _ => exact ⟨_, _, _, _, _, _, rfl⟩
                    have hb := HY.out
                    rw [HLW.out] at hb
                    have HB := Lib.hid hb
                    have hx1 : x1 ≤ 65535 := ok_third hb (i := 1) rfl rfl
                    have hy1 : 0 ≤ x1 := HPOS.out x1 (by simp)
                    have hw1 : IntKind.u16.wrap x1 = x1 := by rw [wrap_u16]; omega
                    have hx3 : x3 ≤ 65535 := ok_third hb (i := 3) rfl rfl
                    have hy3 : 0 ≤ x3 := HPOS.out x3 (by simp)
                    have hw3 : IntKind.u16.wrap x3 = x3 := by rw [wrap_u16]; omega
                    have d0 : wr.cell? ⟨gv, 0, none⟩ = some (.int .i64 x0) := HV1.out.cell 0
                    have d1 : wr.cell? ⟨gv, 1, none⟩ = some (.int .i64 x1) := HV1.out.cell 1
                    have d2 : wr.cell? ⟨gv, 2, none⟩ = some (.int .i64 x2) := HV1.out.cell 2
                    have d3 : wr.cell? ⟨gv, 3, none⟩ = some (.int .i64 x3) := HV1.out.cell 3
                    have d4 : wr.cell? ⟨gv, 4, none⟩ = some (.int .i64 x4) := HV1.out.cell 4
                    have d5 : wr.cell? ⟨gv, 5, none⟩ = some (.int .i64 x5) := HV1.out.cell 5
                    clear hb hl6
                    go_wp2
                    go_still_tail 21, (by kernel_rfl)
                    change wpList _ _ _ _ _ wr.drew
                    refine wpList_store_row rfl 24 (.tmp 2) (.tmp 210) rfl w.heap.size (#[.int .i64 6, .int .i64 x0, .int .i64 0, .int .i64 x2, .int .u16 x3, .int .u16 x1, .int .i64 0, .int .i64 0, .int .i64 0, .int .i64 0, .int .i64 0, .int .i64 0, .int .i64 x4, .int .i64 x5]) rfl rfl 24 Z14 (HO.out.drewN 1).ans HZ.out rfl (by simp [Value.oneCell']) ?_
                    go_wp2
                    rw [readOf_yes HY.out]
                    exact read_end (Fr.plain (.anchor x0 x1 x2 x3 x4 x5)) 0 rfl rfl rfl rfl ((HO.out.drewN 1).put _).1 ((HO.out.drewN 1).put _).2
end Go.Proofs.Ytbdlpkkgfhknkaa
