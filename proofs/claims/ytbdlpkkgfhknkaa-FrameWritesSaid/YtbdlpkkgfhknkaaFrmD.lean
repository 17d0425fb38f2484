/- What Decode answers. -/
import Derived.Test.YtbdlpkkgfhknkaaFrmR
namespace Go.Proofs.Ytbdlpkkgfhknkaa
open Go.RowKit
set_option linter.unusedSimpArgs false

theorem Fr.of_fields {k : Int} (h1 : 1 ≤ k) (h2 : k ≤ 6) (l : List Int) (hl : l.length = (whats k).length) : (Fr.of k l).fields = (whats k).zip l := by
  rcases kind_cases h1 h2 with rfl | rfl | rfl | rfl | rfl | rfl
  · match l, hl with | [_, _, _, _, _, _], _ => rfl
  · match l, hl with | [_, _], _ => rfl
  · match l, hl with | [_], _ => rfl
  · match l, hl with | [_, _, _], _ => rfl
  · match l, hl with | [_, _, _, _, _, _, _, _], _ => rfl
  · match l, hl with | [_, _, _, _, _, _], _ => rfl
theorem zip_nums (ks zs : List Int) (h : ∀ z ∈ zs, F8 z) : ∀ x ∈ ks.zip ((numsF ks zs).map wrap64), x.1 = 3 → F16 x.2 := by
  induction ks generalizing zs with
  | nil => simp
  | cons k ks ih =>
    intro x hx h3
    simp only [numsF, List.map_cons, List.zip_cons_cons, List.mem_cons] at hx
    rcases hx with rfl | hx
    · simp only at h3
      subst h3
      have hs : sizeF 3 = 2 := rfl
      have h0 := get_le (zs.take (sizeF 3)) fun z hz => h z (List.mem_of_mem_take hz)
      have hl : (zs.take (sizeF 3)).length ≤ 2 := by rw [List.length_take, hs]; omega
      have hp := pow_mono hl
      have h2 : (256 : Int) ^ 2 = 65536 := by decide
      show F16 (wrap64 _)
      rw [IntWalk.wrap64_in _ ⟨by omega, by omega⟩]
      exact ⟨by omega, by omega⟩
    · exact ih _ (fun z hz => h z (List.mem_of_mem_drop hz)) x hx h3
theorem Fr.of_marks {k : Int} (h1 : 1 ≤ k) (h2 : k ≤ 6) (zs : List Int) (h : ∀ z ∈ zs, F8 z) : (Fr.of k ((numsF (whats k) zs).map wrap64)).marks := by
  intro x hx h3
  rw [Fr.of_fields h1 h2 _ (by simp [nums_length])] at hx
  exact zip_nums _ zs h x hx h3
theorem Fr.zero_marks {k : Int} (h1 : 1 ≤ k) (h2 : k ≤ 6) : (Fr.of k []).marks := by
  have h : (Fr.of k []).fields.all (fun x => x.2 == 0) = true := by rcases kind_cases h1 h2 with rfl | rfl | rfl | rfl | rfl | rfl <;> rfl
  intro x hx _
  have := List.all_eq_true.1 h x hx
  simp at this
  exact ⟨by omega, by omega⟩
theorem wrap_ok : ∀ (ks ns : List Int), (∀ n ∈ ns, 0 ≤ n) → ns.length = ks.length → okN ks ns = true → ns.map wrap64 = ns
  | [], ns, _, hl, _ => by
    obtain rfl : ns = [] := List.eq_nil_of_length_eq_zero (by simpa using hl)
    rfl
  | k :: ks, [], _, hl, _ => by simp at hl
  | k :: ks, n :: ns, h0, hl, h => by
    simp only [okN, List.headD_cons, List.tail_cons, Bool.and_eq_true, decide_eq_true_eq] at h
    have hM : mostF k ≤ 1125899906842624 := by unfold mostF; repeat' split
                                               all_goals omega
    have hn := h0 n (List.mem_cons_self ..)
    obtain ⟨hd, ht⟩ := h
    have hd0 : n ≤ mostF k := of_decide_eq_true hd
    rw [List.map_cons, wrap_ok ks ns (fun x hx => h0 x (List.mem_cons_of_mem _ hx)) (by simpa using hl) ht, IntWalk.wrap64_in _ ⟨by omega, by omega⟩]
theorem nums_pos (ks zs : List Int) (h : ∀ z ∈ zs, F8 z) : ∀ n ∈ numsF ks zs, 0 ≤ n := by
  induction ks generalizing zs with
  | nil => simp [numsF]
  | cons k ks ih =>
    intro n hn
    simp only [numsF, List.mem_cons] at hn
    rcases hn with rfl | hn
    · exact (get_le _ fun z hz => h z (List.mem_of_mem_take hz)).1
    · exact ih _ (fun z hz => h z (List.mem_of_mem_drop hz)) n hn

/-- A frame, or none, as a value. -/
def frVal : Option Fr → Value
  | some f => f.val
  | none => .nilIface
def ToldTwo (o : Option Fr) (n : Int) (w0 : World) (e : Ending) (w' : World) : Prop := e = .returned (.tuple #[frVal o, .int .i64 n]) ∧ Below w0.heap.size w0 w'
theorem one_byte (k : Int) : getB [k] = k := by simp [getB]
theorem read_any (w0 : World) (B g : Nat) (k : Int) (zs : List Int) (w : World) (h1 : 1 ≤ k) (h2 : k ≤ 6) (hl : zs.length = lenF (whats k)) (hb : Below w0.heap.size w0 w) (he : Eyes w B g (k :: zs)) (hg : w0.heap.size ≤ g) :
    Calls Try.prog 33 #[(Fr.of k []).val, .pointer (some ⟨g, 0, none⟩)] w
      (ToldTwo (if okN (whats k) (numsF (whats k) zs) then some (Fr.of k (numsF (whats k) zs)) else none) (if okN (whats k) (numsF (whats k) zs) then 0 else 3) w0) := by
  have h8 : ∀ z ∈ zs, F8 z := fun z hz => f8s he.wf z (List.mem_cons_of_mem _ hz)
  have hkk : (Fr.of k []).kind = k := Fr.of_kind h1 h2 _
  have hw : (Fr.of k []).fields.map (·.1) = whats k := by rw [Fr.fields_whats, hkk]
  have hc := chain_read w0 B g w.heap.size (w.heap.size + 1) (Fr.of k []).asks (k :: zs) true (asks_kinds _) (by
    rw [Fr.asks, List.map_cons, hw, List.length_cons, hl]
    show _ = 1 + lenF (whats k)
    omega)
  have e0 : (Fr.of k []).asks.map (·.1) = 0 :: whats k := by rw [Fr.asks, List.map_cons, hw]
  have e1 : numsF (0 :: whats k) (k :: zs) = k :: numsF (whats k) zs := by
    show getB [k] :: numsF (whats k) zs = _
    rw [one_byte]
  have e2 : okN (0 :: whats k) (k :: numsF (whats k) zs) = okN (whats k) (numsF (whats k) zs) := by
    show (decide (k ≤ 6) && okN (whats k) _) = _
    simp [h2]
  rw [e0, e1, e2, Bool.true_and, List.map_cons, IntWalk.wrap64_in k ⟨by omega, by omega⟩] at hc
  have hn : (Fr.of k ((numsF (whats k) zs).map wrap64)).nums = (numsF (whats k) zs).map wrap64 := Fr.of_nums h1 h2 _ (by simp [nums_length])
  rw [← hn] at hc
  have hp := picked_any (readP w0 B g w.heap.size (w.heap.size + 1)) (readP_right ..) (k :: zs, true) ([], okN (whats k) (numsF (whats k) zs)) k ((w.alloc (.cells #[.pointer (some ⟨g, 0, none⟩)] 83)).alloc (.cells #[.bool true] 4))
    ⟨(hb.alloc hb.size _).alloc (by have := hb.size; simp; omega) _, (he.below (below_alloc _ _)).below (below_alloc _ _), (Holds.new _ _ _).alloc _, by have := Holds.new (w.alloc (.cells #[.pointer (some ⟨g, 0, none⟩)] 83)) 4 #[.bool true]; simpa using this, hg, by have := hb.size; omega⟩
    (Fr.of k []) (Fr.of k ((numsF (whats k) zs).map wrap64)) (by rw [hkk, Fr.of_kind h1 h2]) hc (Fr.zero_marks h1 h2) (Fr.of_marks h1 h2 zs h8)
  have hok := wrap_ok (whats k) (numsF (whats k) zs) (nums_pos _ zs h8) (nums_length _ _)
  obtain ⟨O, hO⟩ : ∃ O, okN (whats k) (numsF (whats k) zs) = O := ⟨_, rfl⟩
  rw [hO] at hp hok ⊢
  obtain ⟨v0, hv0⟩ : ∃ v, (Fr.of k []).val = v := ⟨_, rfl⟩
  rw [hv0] at hp ⊢
  cases O
  · obtain ⟨v1, hv1⟩ : ∃ v, (Fr.of k ((numsF (whats k) zs).map wrap64)).val = v := ⟨_, rfl⟩
    rw [hv1] at hp
    clear hok hO hn hc e0 e1 e2 hv0 hv1 hw hkk h8 he hl
    go_enter Try.func33, Try.ntmps33
    go_wp2_with (go_at_call 20; refine hp.mono ?_; rintro e w1 ⟨rfl, hi, hk⟩; have c0 := hi.good.cell 0)
    go_ret2
    exact ⟨rfl, hi.below⟩
  · rw [hok rfl] at hp
    obtain ⟨f, hf⟩ : ∃ f, Fr.of k (numsF (whats k) zs) = f := ⟨_, rfl⟩
    rw [hf] at hp ⊢
    obtain ⟨v1, hv1⟩ : ∃ v, f.val = v := ⟨_, rfl⟩
    have HV := Lib.hid hv1
    rw [hv1] at hp
    clear hok hO hn hc e0 e1 e2 hv0 hv1 hw hkk h8 he hl hf
    go_enter Try.func33, Try.ntmps33
    go_wp2_with (go_at_call 20; refine hp.mono ?_; rintro e w1 ⟨rfl, hi, hk⟩; have c0 := hi.good.cell 0)
    go_ret2
    refine ⟨?_, hi.below⟩
    show _ = Ending.returned (.tuple #[f.val, .int .i64 0])
    rw [HV.out]
    rfl

/-- What bytes are decoded to: a frame or none, and the error's number. -/
def decK (k : Int) (zs : List Int) : Option Fr × Int :=
  if zs.length = lenF (whats k) + 3 then
    if opens zs then
      if okN (whats k) (numsF (whats k) (zs.take (zs.length - 2)).tail) then (some (Fr.of k (numsF (whats k) (zs.take (zs.length - 2)).tail)), 0) else (none, 3)
    else (none, 4)
  else (none, 3)
def dec (zs : List Int) : Option Fr × Int :=
  if 64 < zs.length then (none, 5) else match zs with
    | [] => (none, 3)
    | k :: _ => if 1 ≤ k ∧ k ≤ 6 then decK k zs else (none, 3)
theorem decode_long (A : Option Addr) (n c : Nat) (w : World) (h : 64 < n) : Calls Try.prog 15 #[.slice A n c] w (ToldTwo none 5 w) := by
  go_enter Try.func15, Try.ntmps15
  go_wp2
  go_ret2
  exact ⟨rfl, Below.refl _ _⟩
theorem decode_none (A : Option Addr) (c : Nat) (w : World) : Calls Try.prog 15 #[.slice A 0 c] w (ToldTwo none 3 w) := by
  go_enter Try.func15, Try.ntmps15
  go_wp2
  go_ret2
  exact ⟨rfl, Below.refl _ _⟩
theorem nil_eq (W : World) : (binOp .eql 27 .nilIface .nilIface).run Try.prog W = .ok (.bool true) W := by kernel_rfl
theorem iface_eq (u : TypeId) (v : Value) (W : World) : (binOp .eql 27 (.iface u v) .nilIface).run Try.prog W = .ok (.bool false) W := by kernel_rfl
theorem decode_no_kind (A : Option Addr) (n c : Nat) (k : Int) (zs : List Int) (w : World) (hr : IntRow w .u8 A n c (k :: zs)) (hn : n ≤ 64) (hk : ¬ (1 ≤ k ∧ k ≤ 6)) : Calls Try.prog 15 #[.slice A n c] w (ToldTwo none 3 w) := by
  have hl := hr.len_eq
  have hn0 : 0 < n := by simp at hl; omega
  obtain ⟨b, off, rfl, hb, hc⟩ := hr.cell hn0
  have c0 := hc 0 hn0
  simp only [Nat.add_zero, List.getD_cons_zero] at c0
  obtain ⟨k1, k2⟩ := f8s hr.wf k (List.mem_cons_self ..)
  have he := fun W => empty_any k W k1 k2
  simp only [if_neg hk] at he
  have h0 := nil_eq
  clear hc hr hl hk
  go_enter Try.func15, Try.ntmps15
  go_wp2_with (go_at_call 30; refine (he _).mono ?_; rintro e w' ⟨rfl, rfl⟩)
  go_ret2
  exact ⟨rfl, Below.refl _ _⟩
theorem Fr.iface (f : Fr) : ∃ u v, f.val = .iface u v := by cases f <;> exact ⟨_, _, rfl⟩
set_option maxHeartbeats 1000000 in
theorem decode_kind (A : Option Addr) (n c : Nat) (k : Int) (zs : List Int) (w : World) (hr : IntRow w .u8 A n c (k :: zs)) (hn : n ≤ 64) (h1 : 1 ≤ k) (h2 : k ≤ 6) :
    Calls Try.prog 15 #[.slice A n c] w (ToldTwo (decK k (k :: zs)).1 (decK k (k :: zs)).2 w) := by
  have hl := hr.len_eq
  have hn0 : 0 < n := by simp at hl; omega
  have hlen := fun W => length_any (Fr.of k []) W (Fr.zero_marks h1 h2)
  have hL : (Fr.of k []).bytes.length + 2 = lenF (whats k) + 3 := by rw [Fr.bytes_length, Fr.of_kind h1 h2]
  rw [hL] at hlen
  have hL2 := lenF_le k
  have he := fun W => empty_any k W (by omega) (by omega)
  simp only [if_pos (show 1 ≤ k ∧ k ≤ 6 from ⟨h1, h2⟩)] at he
  obtain ⟨L, hLL⟩ : ∃ L, lenF (whats k) = L := ⟨_, rfl⟩
  obtain ⟨u0, v0, hv0⟩ := (Fr.of k []).iface
  have h0 := iface_eq
  rw [hLL] at hL2
  simp only [hLL] at hlen
  simp only [hv0] at he hlen
  unfold decK
  rw [hl, hLL]
  by_cases hne : n = L + 3
  · rw [if_pos hne]
    by_cases ho : opens (k :: zs) = true
    · rw [if_pos ho]
      have hopen := fun W (hW : Below w.heap.size w W) => open_yes A n c (k :: zs) W (hr.below hW) (by omega) ho
      have htl : ∃ rest, (k :: zs).take (n - 2) = k :: rest ∧ rest.length = L := by
        refine ⟨zs.take (n - 3), ?_, ?_⟩
        · rw [show n - 2 = (n - 3) + 1 by omega, List.take_succ_cons]
        · rw [List.length_take]
          simp at hl
          omega
      obtain ⟨rest, hrest, hrl⟩ := htl
      simp only [hrest] at hopen
      rw [hrest]
      obtain ⟨b, off, rfl, hb, hc⟩ := hr.cell hn0
      have c0 := hc 0 hn0
      simp only [Nat.add_zero, List.getD_cons_zero] at c0
      have hread := fun W B g (hW : Below w.heap.size w W) (hE : Eyes W B g (k :: rest)) (hg : w.heap.size ≤ g) => read_any w B g k rest W h1 h2 (by rw [hrl, hLL]) hW hE hg
      simp only [hv0] at hread
      have HW : Hid (∀ z ∈ k :: rest, (Lit.int .u8 z).wf = true) := Lib.hid (fun z hz => hr.wf z (by rw [← hrest] at hz; exact List.mem_of_mem_take hz))
      show Calls _ _ _ _ (ToldTwo (Prod.fst (if okN (whats k) (numsF (whats k) rest) then (some (Fr.of k (numsF (whats k) rest)), 0) else (none, 3))) (Prod.snd (if okN (whats k) (numsF (whats k) rest) then (some (Fr.of k (numsF (whats k) rest)), (0 : Int)) else (none, 3))) w)
      have e1 : Prod.fst (if okN (whats k) (numsF (whats k) rest) then (some (Fr.of k (numsF (whats k) rest)), (0 : Int)) else (none, 3)) = (if okN (whats k) (numsF (whats k) rest) then some (Fr.of k (numsF (whats k) rest)) else none) := by split <;> rfl
      have e2 : Prod.snd (if okN (whats k) (numsF (whats k) rest) then (some (Fr.of k (numsF (whats k) rest)), (0 : Int)) else (none, 3)) = (if okN (whats k) (numsF (whats k) rest) then 0 else 3) := by split <;> rfl
      rw [e1, e2]
      obtain ⟨O, hO⟩ : ∃ O, (if okN (whats k) (numsF (whats k) rest) then some (Fr.of k (numsF (whats k) rest)) else none) = O := ⟨_, rfl⟩
      obtain ⟨E, hE⟩ : ∃ E : Int, (if okN (whats k) (numsF (whats k) rest) then 0 else 3) = E := ⟨_, rfl⟩
      simp only [hO, hE] at hread
      rw [hO, hE]
      clear e1 e2 hO hE hc hr hl hrest hrl hv0 hLL hL ho
      obtain rfl := hne
      go_enter Try.func15, Try.ntmps15
      go_wp2_with (first
        | (go_at_call 30; refine (he _).mono ?_; rintro e w' ⟨rfl, rfl⟩)
        | (go_at_call 31; refine (hlen _).mono ?_; rintro e w1 ⟨rfl, hb1⟩)
        | (go_at_call 32; refine (hopen _ hb1).mono ?_; rintro e w2 ⟨A2, c2, rfl, ho2, hb2⟩)
        | (go_at_call 34; refine (of_any A2 _ c2 (k :: rest) _ (IntRow.of_own ho2 HW.out) (by omega)).mono ?_; rintro e w3 ⟨g3, rfl, hg3, he3, hb3⟩)
        | (go_at_call 33; refine (hread _ _ _ ((hb1.trans (hb2.mono hb1.size)).trans (hb3.mono (Nat.le_trans hb1.size hb2.size))) he3 (by have := hb1.size; have := hb2.size; omega)).mono ?_; rintro e w4 ⟨rfl, hb4⟩))
      go_ret2
      exact ⟨rfl, hb4⟩
    · rw [if_neg ho]
      have hopen := fun W (hW : Below w.heap.size w W) => open_no A n c (k :: zs) W (hr.below hW) (by omega) (by simpa using ho)
      obtain ⟨b, off, rfl, hb, hc⟩ := hr.cell hn0
      have c0 := hc 0 hn0
      simp only [Nat.add_zero, List.getD_cons_zero] at c0
      clear hc hr hl hv0 hLL hL ho
      obtain rfl := hne
      go_enter Try.func15, Try.ntmps15
      go_wp2_with (first
        | (go_at_call 30; refine (he _).mono ?_; rintro e w' ⟨rfl, rfl⟩)
        | (go_at_call 31; refine (hlen _).mono ?_; rintro e w1 ⟨rfl, hb1⟩)
        | (go_at_call 32; refine (hopen _ hb1).mono ?_; rintro e w2 ⟨rfl, hb2⟩))
      go_ret2
      exact ⟨rfl, hb1.trans (hb2.mono hb1.size)⟩
  · rw [if_neg hne]
    obtain ⟨b, off, rfl, hb, hc⟩ := hr.cell hn0
    have c0 := hc 0 hn0
    simp only [Nat.add_zero, List.getD_cons_zero] at c0
    have e1 : (((n : Nat) : Int) != ((L + 3 : Nat) : Int)) = true := by simp; omega
    clear hc hr hl hv0 hLL hL
    go_enter Try.func15, Try.ntmps15
    go_wp2_with (first
      | (go_at_call 30; refine (he _).mono ?_; rintro e w' ⟨rfl, rfl⟩)
      | (go_at_call 31; refine (hlen _).mono ?_; rintro e w1 ⟨rfl, hb1⟩))
    go_ret2
    exact ⟨rfl, hb1⟩
end Go.Proofs.Ytbdlpkkgfhknkaa
