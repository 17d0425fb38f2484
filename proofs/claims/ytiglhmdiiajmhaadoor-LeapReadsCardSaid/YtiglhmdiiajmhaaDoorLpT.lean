/- Package leap: the document's number of a word; its pieces of a text. -/
import Derived.Test.YtiglhmdiiajmhaaDoorLpA
import Derived.Test.YtiglhmdiiajmhaaDoorCvT
import Derived.Test.YtiglhmdiiajmhaaDoorPs
import Derived.Test.YtiglhmdiiajmhaaDoorBox
namespace Go.Proofs.YtiglhmdiiajmhaaDoor
open Go.RowKit Go.Shelf
set_option linter.unusedVariables false
set_option linter.unusedSimpArgs false
attribute [local go_sem] Oper.semAt_some

theorem dec_one {n : Nat} (h : n < 10) : decB n = ⟨#[UInt8.ofNat (48 + n)]⟩ := by unfold decB; rw [Lib.decDigits_one h]
theorem dec_two {n : Nat} (h1 : ¬ n < 10) (h2 : n < 100) : decB n = ⟨#[UInt8.ofNat (48 + n / 10), UInt8.ofNat (48 + n % 10)]⟩ := by unfold decB; rw [Lib.decDigits_two h1 h2]
theorem u8_val {k : Nat} (h : k < 256) : (UInt8.ofNat k).toNat = k := by rw [UInt8.toNat_ofNat']; exact Nat.mod_eq_of_lt h
theorem small_one (x : UInt8) : smallOf ⟨#[x]⟩ = if digitB (x.toNat : Int) = true then some ((x.toNat : Int) - 48) else none := by
  unfold smallOf
  have h0 : byt ⟨#[x]⟩ 0 = (x.toNat : Int) := rfl
  have h1 : (⟨#[x]⟩ : ByteArray).size = 1 := rfl
  rw [h0, h1]
  by_cases h : digitB (x.toNat : Int) = true
  · rw [if_pos ⟨rfl, h⟩, if_pos h]
  · rw [if_neg (fun k => h k.2), if_neg (fun k => absurd k.1 (by decide)), if_neg h]
theorem small_two (x y : UInt8) : smallOf ⟨#[x, y]⟩ = if digitB (x.toNat : Int) = true ∧ ¬ (x.toNat : Int) = 48 ∧ digitB (y.toNat : Int) = true then some (((x.toNat : Int) - 48) * 10 + ((y.toNat : Int) - 48)) else none := by
  unfold smallOf
  have h0 : byt ⟨#[x, y]⟩ 0 = (x.toNat : Int) := rfl
  have h2 : byt ⟨#[x, y]⟩ 1 = (y.toNat : Int) := rfl
  have h1 : (⟨#[x, y]⟩ : ByteArray).size = 2 := rfl
  rw [h0, h1, h2, if_neg (fun k => absurd k.1 (by decide))]
  by_cases h : digitB (x.toNat : Int) = true ∧ ¬ (x.toNat : Int) = 48 ∧ digitB (y.toNat : Int) = true
  · rw [if_pos ⟨rfl, h⟩, if_pos h]
  · rw [if_neg (fun k => h k.2), if_neg h]
theorem small_dec {n : Nat} (h : n < 100) : smallOf (decB n) = some (n : Int) := by
  by_cases h1 : n < 10
  · rw [dec_one h1, small_one, u8_val (by omega), if_pos (digit_iff.2 (by omega))]
    congr 1
    omega
  · rw [dec_two h1 h, small_two, u8_val (by omega), u8_val (by omega), if_pos ⟨digit_iff.2 (by omega), by omega, digit_iff.2 (by omega)⟩]
    congr 1
    omega
theorem small_back {s : ByteArray} {n : Int} (h : smallOf s = some n) : ∃ k : Nat, k < 100 ∧ n = (k : Int) ∧ s = decB k := by
  have hsz : s.size = 1 ∨ s.size = 2 := by
    unfold smallOf at h
    split at h
    · rename_i k; exact .inl k.1
    · split at h
      · rename_i k; exact .inr k.1
      · cases h
  rcases hsz with hz | hz
  · have hl : s.data.toList.length = 1 := by rw [size_list]; exact hz
    match hs : s.data.toList, hl with
    | [x], _ =>
      rw [arr_of hs] at h ⊢
      have h' := h
      rw [show (⟨([x] : List UInt8).toArray⟩ : ByteArray) = ⟨#[x]⟩ from rfl, small_one] at h'
      split at h'
      · rename_i hd
        have hd := digit_iff.1 hd
        simp only [Option.some.injEq] at h'
        refine ⟨x.toNat - 48, by omega, by omega, ?_⟩
        rw [dec_one (by omega), show 48 + (x.toNat - 48) = x.toNat by omega, UInt8.ofNat_toNat]
      · cases h'
  · have hl : s.data.toList.length = 2 := by rw [size_list]; exact hz
    match hs : s.data.toList, hl with
    | [x, y], _ =>
      rw [arr_of hs] at h ⊢
      have h' := h
      rw [show (⟨([x, y] : List UInt8).toArray⟩ : ByteArray) = ⟨#[x, y]⟩ from rfl, small_two] at h'
      split at h'
      · rename_i hd
        have hd1 := digit_iff.1 hd.1
        have hd2 := digit_iff.1 hd.2.2
        have hd3 := hd.2.1
        simp only [Option.some.injEq] at h'
        refine ⟨(x.toNat - 48) * 10 + (y.toNat - 48), by omega, by omega, ?_⟩
        rw [dec_two (by omega) (by omega), show 48 + ((x.toNat - 48) * 10 + (y.toNat - 48)) / 10 = x.toNat by omega, show 48 + ((x.toNat - 48) * 10 + (y.toNat - 48)) % 10 = y.toNat by omega, UInt8.ofNat_toNat, UInt8.ofNat_toNat]
      · cases h'
def smallV (s : ByteArray) : Int := match smallOf s with
  | some n => n
  | none => -1
theorem smallV_dec {k : Nat} (h : k < 100) : smallV (decB k) = (k : Int) := by unfold smallV; rw [small_dec h]
theorem smallV_no {s : ByteArray} (h : ∀ k, k < 100 → ¬ decB k = s) : smallV s = -1 := by
  unfold smallV
  cases hs : smallOf s with
  | none => rfl
  | some n =>
    obtain ⟨k, hk, _, e⟩ := small_back hs
    exact absurd e.symm (h k hk)
theorem bytes_ne {a b : ByteArray} (h : ¬ a = b) : (a.toList == b.toList) = false := by
  rw [text_eq, decide_eq_false h]
theorem rsmall_any (s : ByteArray) (w : World) (hT : Tab w) :
    Calls Tryd.prog 33 #[.string s] w fun e w' => e = .returned (.int .i64 (smallV s)) ∧ Below w.heap.size w w' := by
  have HT := Lib.hid hT
  clear hT
  go_enter Tryd.func33, Tryd.ntmps33
  go_wp2
  go_loopw [3] (fun v wr => ∃ k : Nat, v = .int .i64 (k : Int) ∧ k ≤ 100 ∧ (∀ j, j < k → ¬ decB j = s) ∧ Below w.heap.size w wr) (fun v _ => 100 - (intOf v).toNat)
  case atStart => exact ⟨0, rfl, by decide, fun j hj => absurd hj (Nat.not_lt_zero _), Below.refl _ _⟩
  case round =>
    obtain ⟨k, rfl, hk, hno, hb⟩ := hrel
    have HB := Lib.hid hb
    have HI := Lib.hid (fun W (hW : Tab W) => itoa_any k W hW (by omega))
    have ew := IntWalk.i64_in ((k : Int) + 1) (by omega)
    clear hb
    by_cases hlt : k < 100
    · have hltI : (k : Int) < 100 := by omega
      by_cases he : decB k = s
      · have HV := Lib.hid (show smallV s = (k : Int) by rw [← he]; exact smallV_dec hlt)
        have HE := Lib.hid he
        have hbb : (s.toList == s.toList) = true := beq_self_eq_true _
        clear hno he
        go_wp2_with (go_at_call 26; refine (HI.out _ (HT.out.below HB.out)).mono ?_; rintro e w1 ⟨rfl, hb1⟩; rw [HE.out]; have HB := Lib.hid (HB.out.trans (hb1.mono HB.out.size)); clear hb1)
        go_ret
        exact ⟨by rw [HV.out]; rfl, HB.out⟩
      · have hne := bytes_ne he
        have HN := Lib.hid (show ∀ j, j < k + 1 → ¬ decB j = s from fun j hj => by
          rcases Nat.lt_succ_iff_lt_or_eq.1 hj with h | h
          · exact hno j h
          · rw [h]; exact he)
        clear hno he
        go_wp2_with (go_at_call 26; refine (HI.out _ (HT.out.below HB.out)).mono ?_; rintro e w1 ⟨rfl, hb1⟩; have HB := Lib.hid (HB.out.trans (hb1.mono HB.out.size)); clear hb1)
        go_roundw
        case rel => exact ⟨k + 1, by go_num, by omega, HN.out, HB.out⟩
        case measure => simp [intOf]; omega
    · have hk1 : k = 100 := by omega
      subst hk1
      have HV := Lib.hid (smallV_no hno)
      clear hno
      go_wp2
      go_ret
      exact ⟨by rw [HV.out]; rfl, HB.out⟩
theorem text_info : (Tryd.prog.info? 9).map (fun i => (i.zero, i.size, i.bytes)) = some (some (.string ⟨#[]⟩), 1, 16) := by kernel_rfl
theorem cut_list (s : ByteArray) (a b : Nat) (h : b ≤ s.size) : (s.extract a b).data.toList = (s.data.toList.drop a).take (b - a) := by
  have := Lib.extract_toList s a b
  rwa [Lib.toList_data] at this
/-- Between two bytes that Pieces looks at: k of them were read, the piece began at f, those of D are done. -/
structure PcRun (c : UInt8) (s : ByteArray) (k f : Nat) (D : List ByteArray) : Prop where
  le : f ≤ k
  len : D.length ≤ k
  rest : k ≤ s.size → D ++ (piecesG c ((s.data.toList.drop f).take (k - f)) (s.data.toList.drop k)).map (fun l => (⟨l.toArray⟩ : ByteArray)) = pcs c s
  all : ¬ k ≤ s.size → D = pcs c s
theorem PcRun.start (c : UInt8) (s : ByteArray) : PcRun c s 0 0 [] := ⟨Nat.le_refl _, Nat.le_refl _, fun _ => by simp [pcs], fun h => absurd (Nat.zero_le _) h⟩
theorem get_byt {s : ByteArray} {k : Nat} (h : k < s.size) : ∃ x, s.data.toList[k]? = some x ∧ byt s k = (x.toNat : Int) := by
  have hl : k < s.data.toList.length := by rw [size_list]; exact h
  refine ⟨s.data.toList[k], List.getElem?_eq_getElem hl, ?_⟩
  unfold byt
  rw [List.getD_eq_getElem?_getD, List.getElem?_eq_getElem hl]
  rfl
theorem drop_at {s : ByteArray} {k : Nat} {x : UInt8} (h : s.data.toList[k]? = some x) : s.data.toList.drop k = x :: s.data.toList.drop (k + 1) := by
  obtain ⟨hl, rfl⟩ := List.getElem?_eq_some_iff.1 h
  exact List.drop_eq_getElem_cons hl
theorem PcRun.more {c : UInt8} {s : ByteArray} {k f : Nat} {D : List ByteArray} (h : PcRun c s k f D) (hk : k < s.size) (hb : ¬ byt s k = (c.toNat : Int)) : PcRun c s (k + 1) f D := by
  obtain ⟨x, hx, hbx⟩ := get_byt hk
  have hne : ¬ x = c := fun e => hb (by rw [hbx, e])
  refine ⟨Nat.le_succ_of_le h.le, Nat.le_succ_of_le h.len, fun _ => ?_, fun h' => absurd hk h'⟩
  have h0 := h.rest (by omega)
  rw [drop_at hx, piecesG, if_neg hne] at h0
  have hle := h.le
  have e1 : (s.data.toList.drop f).take (k + 1 - f) = (s.data.toList.drop f).take (k - f) ++ [x] := by
    rw [show k + 1 - f = (k - f) + 1 by omega, List.take_add_one, List.getElem?_drop, show f + (k - f) = k by omega, hx]
    rfl
  rw [e1]
  exact h0
theorem PcRun.cut {c : UInt8} {s : ByteArray} {k f : Nat} {D : List ByteArray} (h : PcRun c s k f D) (hk : k < s.size) (hb : byt s k = (c.toNat : Int)) : PcRun c s (k + 1) (k + 1) (D ++ [s.extract f k]) := by
  obtain ⟨x, hx, hbx⟩ := get_byt hk
  have he : x = c := UInt8.toNat_inj.1 (by rw [hbx] at hb; omega)
  refine ⟨Nat.le_refl _, by rw [List.length_append]; simp; exact h.len, fun _ => ?_, fun h' => absurd hk h'⟩
  have h0 := h.rest (by omega)
  rw [drop_at hx, piecesG, if_pos he, List.map_cons] at h0
  rw [Nat.sub_self, List.take_zero, List.append_assoc, List.singleton_append, arr_of (cut_list s f k (by omega))]
  exact h0
theorem PcRun.last {c : UInt8} {s : ByteArray} {f : Nat} {D : List ByteArray} (h : PcRun c s s.size f D) : PcRun c s (s.size + 1) (s.size + 1) (D ++ [s.extract f s.size]) := by
  refine ⟨Nat.le_refl _, by rw [List.length_append]; simp; exact h.len, fun h' => absurd h' (by omega), fun _ => ?_⟩
  have h0 := h.rest (Nat.le_refl _)
  rw [List.drop_eq_nil_of_le (show s.data.toList.length ≤ s.size by rw [size_list]; exact Nat.le_refl _), piecesG, List.map_cons, List.map_nil] at h0
  rw [arr_of (cut_list s f s.size (Nat.le_refl _))]
  exact h0
set_option maxRecDepth 100000 in
set_option maxHeartbeats 4000000 in
theorem pieces_any (s : ByteArray) (c : UInt8) (w : World) (hs : s.size ≤ 90000) :
    Calls Tryd.prog 21 #[.string s, .int .u8 (c.toNat : Int)] w fun e w' => ∃ A cap, e = .returned (.slice A (pcs c s).length cap) ∧ w'.ownsRow w.heap.size 9 1 (.slice A (pcs c s).length cap) (pcs c s).length (sts (pcs c s)) ∧ Below w.heap.size w w' := by
  go_enter Tryd.func21, Tryd.ntmps21
  go_wp2
  go_loopw [5, 6, 7] (fun l f i wr => ∃ (k f' : Nat) (D : List ByteArray) (A : Option Addr) (cap : Nat), k ≤ s.size + 1 ∧ i = .int .i64 (k : Int) ∧ f = .int .i64 (f' : Int) ∧ l = .slice A D.length cap ∧ PcRun c s k f' D ∧ wr.ownsRow w.heap.size 9 1 (.slice A D.length cap) D.length (sts D) ∧ Below w.heap.size w wr) (fun _ _ i _ => s.size + 1 - (intOf i).toNat)
  case atStart => exact ⟨0, 0, [], none, 0, Nat.zero_le _, rfl, rfl, rfl, PcRun.start c s, World.ownsRow_nil _ _ _ _, Below.refl _ _⟩
  case round =>
    obtain ⟨k, f, D, A, cap, hk, rfl, rfl, rfl, hp, ho, hb⟩ := hrel
    have ew := IntWalk.i64_in ((k : Int) + 1) (by omega)
    have HB := Lib.hid hb
    have HP := Lib.hid hp
    have HO := Lib.hid ho
    have HD := Lib.hid (show D.length ≤ 100000 by have := hp.len; omega)
    have hfk := hp.le
    by_cases hlt : k < s.size
    · have hidx := run_byte s k hlt wr
      have b2 := byt_bd s k
      have hle : (k : Int) ≤ (s.size : Int) := by omega
      have hne : ((k : Int) == (s.size : Int)) = false := by rw [beq_eq_false_iff_ne]; omega
      by_cases hc : byt s k = (c.toNat : Int)
      · have HN := Lib.hid (hp.cut hlt hc)
        rw [hc] at hidx
        have hbb : ((c.toNat : Int) == (c.toNat : Int)) = true := beq_self_eq_true _
        have HZ := Lib.hid (Box.start wr 9 #[.string (s.extract f k)])
        have HO2 := Lib.hid (own_keepK ho HZ.out.below)
        have HSZ := Lib.hid (Nat.le_trans HB.out.size HZ.out.below.size)
        clear hp ho hb hc b2
        go_wp2_with (at_builtin; refine wpList_pushK rfl (.tmp 25) (.tmp 30) _ rfl w.heap.size 9 _ 1 16 Tryd.underlying46 text_info rfl (by decide) A D.length cap (sts D) rfl HO2.out wr.heap.size 9 [.string (s.extract f k)] rfl HZ.out.holds rfl (by intro u hu; simp at hu; rcases hu with rfl; rfl) HD.out (by decide) HSZ.out ?_; intro A8 c8 w8 ho8 hb8; have HO8 := Lib.hid ho8; have HB8 := Lib.hid ((HB.out.trans (HZ.out.below.mono HB.out.size)).trans hb8); clear ho8 hb8)
        go_roundw
        case rel => exact ⟨k + 1, k + 1, D ++ [s.extract f k], A8, c8, by omega, by go_num, by go_num, by simp, HN.out, by rw [sts_append, List.length_append]; exact HO8.out, HB8.out⟩
        case measure => simp [intOf]; omega
      · have HN := Lib.hid (hp.more hlt hc)
        have hbb : (byt s k == (c.toNat : Int)) = false := by rw [beq_eq_false_iff_ne]; exact hc
        obtain ⟨B, hB⟩ : ∃ B, byt s k = B := ⟨_, rfl⟩
        rw [hB] at hidx hbb
        clear hp hb hc b2 hB
        go_wp2
        go_roundw
        case rel => exact ⟨k + 1, f, D, A, cap, by omega, by go_num, rfl, rfl, HN.out, HO.out, HB.out⟩
        case measure => simp [intOf]; omega
    · by_cases hk2 : k = s.size
      · subst hk2
        have HN := Lib.hid hp.last
        have hle : ((s.size : Nat) : Int) ≤ (s.size : Int) := Int.le_refl _
        have hbb : (((s.size : Nat) : Int) == (s.size : Int)) = true := beq_self_eq_true _
        have HZ := Lib.hid (Box.start wr 9 #[.string (s.extract f s.size)])
        have HO2 := Lib.hid (own_keepK ho HZ.out.below)
        have HSZ := Lib.hid (Nat.le_trans HB.out.size HZ.out.below.size)
        clear hp ho hb
        go_wp2_with (at_builtin; refine wpList_pushK rfl (.tmp 25) (.tmp 30) _ rfl w.heap.size 9 _ 1 16 Tryd.underlying46 text_info rfl (by decide) A D.length cap (sts D) rfl HO2.out wr.heap.size 9 [.string (s.extract f s.size)] rfl HZ.out.holds rfl (by intro u hu; simp at hu; rcases hu with rfl; rfl) HD.out (by decide) HSZ.out ?_; intro A8 c8 w8 ho8 hb8; have HO8 := Lib.hid ho8; have HB8 := Lib.hid ((HB.out.trans (HZ.out.below.mono HB.out.size)).trans hb8); clear ho8 hb8)
        go_roundw
        case rel => exact ⟨s.size + 1, s.size + 1, D ++ [s.extract f s.size], A8, c8, by omega, by go_num, by go_num, by simp, HN.out, by rw [sts_append, List.length_append]; exact HO8.out, HB8.out⟩
        case measure => simp [intOf]
      · have hd := hp.all (by omega)
        rw [hd] at ho
        have HO3 := Lib.hid ho
        have HDD := Lib.hid hd
        have hgt : decide ((k : Int) ≤ (s.size : Int)) = false := decide_eq_false (by omega)
        clear hp ho hb hd HO
        go_wp2
        go_ret
        exact ⟨A, cap, by rw [← HDD.out]; rfl, HO3.out, HB.out⟩
end Go.Proofs.YtiglhmdiiajmhaaDoor
