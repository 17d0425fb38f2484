/- Frames and bytes, there and back; what Decode and the document's Read answer of whatever bytes. -/
import Derived.Test.YtbdlpkkgfhknkaaFrmN
import Derived.Test.YtbdlpkkgfhknkaaFrmGO
import Derived.Test.YtbdlpkkgfhknkaaFrmGP
namespace Go.Proofs.Ytbdlpkkgfhknkaa
open Go.RowKit
set_option linter.unusedSimpArgs false

theorem readOf_fst (k : Int) (ks ns : List Int) : (if okN ks ns then (some (Fr.of k ns), (0 : Int)) else (none, 3)) = readOf k ks ns := rfl
theorem decK_yes {k : Int} {zs : List Int} (hl : zs.length = lenF (whats k) + 3) (ho : opens zs = true) : decK k zs = readOf k (whats k) (numsF (whats k) (zs.take (zs.length - 2)).tail) := by
  unfold decK
  rw [if_pos hl, if_pos ho]
  rfl
theorem decK_no {k : Int} {zs : List Int} (hl : zs.length = lenF (whats k) + 3) (ho : opens zs = false) : decK k zs = (none, 4) := by
  unfold decK
  rw [if_pos hl, if_neg (by rw [ho]; decide)]
theorem decK_len {k : Int} {zs : List Int} (hl : zs.length ≠ lenF (whats k) + 3) : decK k zs = (none, 3) := by
  unfold decK
  rw [if_neg hl]
theorem dec_long {zs : List Int} (h : 64 < zs.length) : dec zs = (none, 5) := by unfold dec; rw [if_pos h]
theorem dec_nil : dec [] = (none, 3) := rfl
theorem dec_cons {k : Int} {zs : List Int} (h : zs.length < 64) : dec (k :: zs) = if 1 ≤ k ∧ k ≤ 6 then decK k (k :: zs) else (none, 3) := by
  unfold dec
  rw [if_neg (by simp; omega)]
theorem take_tail (k : Int) (zs : List Int) (h : 2 ≤ zs.length) : ((k :: zs).take ((k :: zs).length - 2)).tail = zs.take ((k :: zs).length - 3) := by
  rw [List.length_cons, show zs.length + 1 - 2 = (zs.length - 2) + 1 by omega, List.take_succ_cons, List.tail_cons]
  congr 1
theorem decode_any (A : Option Addr) (n c : Nat) (zs : List Int) (w : World) (hr : IntRow w .u8 A n c zs) : Calls Try.prog 15 #[.slice A n c] w (ToldTwo (dec zs).1 (dec zs).2 w) := by
  have hl := hr.len_eq
  by_cases h64 : 64 < n
  · rw [dec_long (by omega)]
    exact decode_long A n c w h64
  · match zs, hr, hl with
    | [], hr, hl =>
      obtain rfl : n = 0 := by simpa using hl.symm
      exact decode_none A c w
    | k :: zs, hr, hl =>
      simp at hl
      rw [dec_cons (by omega)]
      by_cases hk : 1 ≤ k ∧ k ≤ 6
      · rw [if_pos hk]
        exact decode_kind A n c k zs w hr (by omega) hk.1 hk.2
      · rw [if_neg hk]
        exact decode_no_kind A n c k zs w hr (by omega) hk
theorem rread_any (A : Option Addr) (n c : Nat) (zs : List Int) (w : World) (hr : IntRow w .u8 A n c zs) : Calls Try.prog 16 #[.slice A n c] w (Told (readVal (dec zs)) w) := by
  have hl := hr.len_eq
  by_cases h64 : 64 < n
  · rw [dec_long (by omega)]
    exact rread_long A n c w h64
  · match zs, hr, hl with
    | [], hr, hl =>
      obtain rfl : n = 0 := by simpa using hl.symm
      exact rread_none A c w
    | k :: zs, hr, hl =>
      simp at hl
      rw [dec_cons (by omega)]
      by_cases hk : 1 ≤ k ∧ k ≤ 6
      · rw [if_pos hk]
        by_cases hne : n = lenF (whats k) + 3
        · by_cases ho : opens (k :: zs) = true
          · have h1 : 1 ≤ lenF (whats k) := by rcases kind_cases hk.1 hk.2 with rfl | rfl | rfl | rfl | rfl | rfl <;> decide
            rw [decK_yes (by simp; omega) ho, take_tail k zs (by omega), List.length_cons, hl]
            exact rread_yes A n c k zs w hr (by omega) hk.1 hk.2 hne ho
          · have ho' : opens (k :: zs) = false := by simpa using ho
            rw [decK_no (by simp; omega) ho']
            exact rread_sum A n c k zs w hr (by omega) hk.1 hk.2 hne ho'
        · rw [decK_len (by simp; omega)]
          exact rread_short A n c k zs w hr (by omega) hk.1 hk.2 hne
      · rw [if_neg hk]
        exact rread_no_kind A n c k zs w hr (by omega) hk

theorem Fr.sealed_wf (f : Fr) : ∀ z ∈ f.sealed, (Lit.int .u8 z).wf = true := Go.Proofs.Ytbdlpkkgfhknkaa.sealed_wf f.bytes_wf
theorem sealed_length (zs : List Int) : (sealed zs).length = zs.length + 2 := by simp [sealed]
theorem Fr.sealed_length (f : Fr) : f.sealed.length = f.bytes.length + 2 := Go.Proofs.Ytbdlpkkgfhknkaa.sealed_length _
theorem good_ok (f : Fr) (h : f.good = true) : okN (whats f.kind) f.nums = true := by
  rw [← f.fields_whats]
  refine (okN_iff f.fields f.nums (by simp [Fr.nums])).2 fun i hi => ?_
  have h0 := List.all_eq_true.1 h f.fields[i] (List.getElem_mem hi)
  simp only [okF, Bool.and_eq_true, decide_eq_true_eq] at h0
  have e : f.nums[i]?.getD 0 = f.fields[i].2 := by simp [Fr.nums, List.getElem?_eq_getElem hi]
  rw [e]
  exact h0.2
/-- What is encoded is decoded to the frame that it was. -/
theorem dec_sealed (f : Fr) (h : f.good = true) : dec f.sealed = (some f, 0) := by
  have hb : f.sealed = f.kind :: (bytesF f.fields ++ [((sumOf f.bytes).toNat : Int) / 256, ((sumOf f.bytes).toNat : Int) % 256]) := rfl
  have hl := f.sealed_length
  have hbl := f.bytes_length
  have hle := lenF_le f.kind
  have hk := f.kind_range
  rw [hb, dec_cons (by rw [hb] at hl; simp at hl ⊢; omega), if_pos hk, ← hb]
  rw [decK_yes (zs := f.sealed) (by omega) (opens_sealed _)]
  have ht : (f.sealed.take (f.sealed.length - 2)).tail = bytesF f.fields := by
    rw [hl, Nat.add_sub_cancel]
    have := sealed_take f.bytes
    unfold Fr.sealed
    rw [this]
    rfl
  rw [ht, ← f.fields_whats, nums_bytes f.fields h f.fields_range, f.fields_whats]
  show readOf f.kind (whats f.kind) f.nums = _
  rw [readOf_yes (good_ok f h), f.of_self]
/-- What is opened is what was sealed. -/
theorem opens_is {zs : List Int} (hw : ∀ n ∈ zs, (Lit.int .u8 n).wf = true) (h : opens zs = true) : sealed (zs.take (zs.length - 2)) = zs := by
  have h3 : 2 ≤ zs.length := by unfold opens at h; simp at h; omega
  obtain ⟨m, hm⟩ : ∃ m, zs.length = m + 2 := ⟨zs.length - 2, by omega⟩
  have h2 : ((sumOf (zs.take m)).toNat : Int) = zs[m]?.getD 0 * 256 + zs[m + 1]?.getD 0 := by
    unfold opens lastTwo at h
    rw [hm] at h
    simpa using h
  obtain ⟨p1, p2⟩ := range_u8 hw m
  obtain ⟨q1, q2⟩ := range_u8 hw (m + 1)
  rw [hm, Nat.add_sub_cancel]
  unfold sealed
  rw [h2]
  have e : zs = zs.take (m + 1 + 1) := by rw [List.take_of_length_le (by omega)]
  conv => rhs; rw [e, take_more zs (m + 1) (by omega), take_more zs m (by omega)]
  generalize zs[m]?.getD 0 = X at *
  generalize zs[m + 1]?.getD 0 = Y at *
  rw [show (X * 256 + Y) / 256 = X by omega, show (X * 256 + Y) % 256 = Y by omega, List.append_assoc]
  rfl
theorem okN_zip : ∀ (ks ns : List Int), (∀ n ∈ ns, 0 ≤ n) → okN ks ns = true → (ks.zip ns).all okF = true
  | [], _, _, _ => rfl
  | _ :: _, [], _, _ => rfl
  | k :: ks, n :: ns, h0, h => by
    have h' : (decide (n ≤ mostF k) && okN ks ns) = true := h
    rw [Bool.and_eq_true] at h'
    have hd : n ≤ mostF k := of_decide_eq_true h'.1
    rw [List.zip_cons_cons, List.all_cons, okN_zip ks ns (fun x hx => h0 x (List.mem_cons_of_mem _ hx)) h'.2]
    have := h0 n (List.mem_cons_self ..)
    simp [okF, hd, this]
/-- What is decoded has just these bytes. -/
theorem dec_back {zs : List Int} {f : Fr} {e : Int} (hw : ∀ n ∈ zs, (Lit.int .u8 n).wf = true) (h : dec zs = (some f, e)) : e = 0 ∧ f.good = true ∧ f.sealed = zs := by
  by_cases h64 : 64 < zs.length
  · rw [dec_long h64] at h
    cases h
  · match zs, hw, h, h64 with
    | [], _, h, _ => cases h
    | k :: zs, hw, h, h64 =>
      simp at h64
      rw [dec_cons (by omega)] at h
      by_cases hk : 1 ≤ k ∧ k ≤ 6
      · rw [if_pos hk] at h
        by_cases hl : (k :: zs).length = lenF (whats k) + 3
        · by_cases ho : opens (k :: zs) = true
          · have h1 : 1 ≤ lenF (whats k) := by rcases kind_cases hk.1 hk.2 with rfl | rfl | rfl | rfl | rfl | rfl <;> decide
            have hl' := hl
            simp at hl'
            rw [decK_yes hl ho, take_tail k zs (by omega)] at h
            obtain ⟨rest, hrest⟩ : ∃ rest, zs.take ((k :: zs).length - 3) = rest := ⟨_, rfl⟩
            rw [hrest] at h
            have h8 : ∀ z ∈ rest, F8 z := fun z hz => f8s hw z (List.mem_cons_of_mem _ (by rw [← hrest] at hz; exact List.mem_of_mem_take hz))
            have hrl : rest.length = lenF (whats k) := by rw [← hrest, List.length_take, List.length_cons]; omega
            rcases hok : okN (whats k) (numsF (whats k) rest) with _ | _
            · rw [readOf_no hok] at h
              cases h
            · rw [readOf_yes hok] at h
              simp only [Prod.mk.injEq, Option.some.injEq] at h
              obtain ⟨rfl, rfl⟩ := h
              have hf := Fr.of_fields hk.1 hk.2 (numsF (whats k) rest) (nums_length _ _)
              refine ⟨rfl, ?_, ?_⟩
              · unfold Fr.good
                rw [hf]
                exact okN_zip _ _ (nums_pos _ _ h8) hok
              · have hb : (Fr.of k (numsF (whats k) rest)).bytes = (k :: zs).take ((k :: zs).length - 2) := by
                  rw [Fr.bytes, hf, Fr.of_kind hk.1 hk.2, bytes_nums (whats k) rest h8 hrl, ← hrest]
                  rw [List.length_cons, show zs.length + 1 - 2 = (zs.length - 2) + 1 by omega, List.take_succ_cons]
                  congr 1
                unfold Fr.sealed
                rw [hb]
                exact opens_is hw ho
          · rw [decK_no hl (by simpa using ho)] at h
            cases h
        · rw [decK_len hl] at h
          cases h
      · rw [if_neg hk] at h
        cases h
theorem Fr.good_wf {f : Fr} (h : f.good = true) : f.wf := fun x hx => by
  have h0 := List.all_eq_true.1 h x hx
  simp only [okF, Bool.and_eq_true, decide_eq_true_eq] at h0
  have hr := f.fields_range x hx
  have hk : x.1 = 1 ∨ x.1 = 2 ∨ x.1 = 3 ∨ x.1 = 4 := by omega
  have hm : mostF x.1 ≤ 1125899906842624 := by rcases hk with h | h | h | h <;> rw [h] <;> simp [mostF]
  split
  · rename_i h3
    rw [h3] at h0
    exact ⟨h0.1, h0.2⟩
  · exact ⟨by omega, by omega⟩
theorem sealed_inj {f g : Fr} (hf : f.good = true) (hg : g.good = true) (h : f.sealed = g.sealed) : f = g := by
  have h1 := dec_sealed f hf
  rw [h, dec_sealed g hg] at h1
  simpa using h1.symm
theorem dec_cases (zs : List Int) : (∃ f, (dec zs) = (some f, 0)) ∨ (dec zs = (none, 3) ∨ dec zs = (none, 4) ∨ dec zs = (none, 5)) := by
  by_cases h64 : 64 < zs.length
  · rw [dec_long h64]
    simp
  · match zs, h64 with
    | [], _ => exact .inr (.inl rfl)
    | k :: zs, h64 =>
      simp at h64
      rw [dec_cons (by omega)]
      split
      · unfold decK
        split
        · split
          · split
            · exact .inl ⟨_, rfl⟩
            · simp
          · simp
        · simp
      · simp
end Go.Proofs.Ytbdlpkkgfhknkaa
