/- Package source: Time. -/
import Derived.Test.YtgmeakcfiaopcaaGreatScC
namespace Go.Proofs.YtgmeakcfiaopcaaGreat
open Go.RowKit
set_option linter.unusedVariables false
set_option linter.unusedSimpArgs false

/-- What Time answers: the time, over how many hops, whose, how; the error. -/
def STime (f : FS) (a : AS) (lo t hp r b y v : Int) : Prop :=
  (synB f = true ∧ ∃ t' hp' v', Tells f lo t' hp' v' ∧ (v' = 0 ∧ t = t' ∧ hp = hp' ∧ r = f.s.root ∧ b = (saidV f.s).1 ∧ y = (if minB f = true then 1 else 2) ∧ v = 0 ∨ v' ≠ 0 ∧ t = 0 ∧ hp = 0 ∧ r = 0 ∧ b = 0 ∧ y = 0 ∧ v = v')) ∨
  (synB f = false ∧ afreshB a = false ∧ t = 0 ∧ hp = 0 ∧ r = 0 ∧ b = 0 ∧ y = 0 ∧ v = 9) ∨
  (synB f = false ∧ afreshB a = true ∧ (timeB lo = false ∨ timeB lo = true ∧ timeB (lo + a.off) = false) ∧ t = 0 ∧ hp = 0 ∧ r = 0 ∧ b = 0 ∧ y = 0 ∧ v = 8) ∨
  (synB f = false ∧ afreshB a = true ∧ timeB lo = true ∧ timeB (lo + a.off) = true ∧ t = lo + a.off ∧ hp = a.hp ∧ r = a.ro ∧ b = a.bo ∧ y = 3 ∧ v = 0)
theorem stime_is (f : FS) (a : AS) (lo : Int) : ∃ t hp r b y v, STime f a lo t hp r b y v := by
  cases h1 : synB f with
  | true =>
    obtain ⟨t', hp', v', ht⟩ := tells_is f lo
    by_cases hv : v' = 0
    · exact ⟨_, _, _, _, _, _, .inl ⟨h1, t', hp', v', ht, .inl ⟨hv, rfl, rfl, rfl, rfl, rfl, rfl⟩⟩⟩
    · exact ⟨_, _, _, _, _, _, .inl ⟨h1, t', hp', v', ht, .inr ⟨hv, rfl, rfl, rfl, rfl, rfl, rfl⟩⟩⟩
  | false =>
    cases h2 : afreshB a with
    | false => exact ⟨_, _, _, _, _, _, .inr (.inl ⟨h1, h2, rfl, rfl, rfl, rfl, rfl, rfl⟩)⟩
    | true =>
      cases h3 : timeB lo with
      | false => exact ⟨_, _, _, _, _, _, .inr (.inr (.inl ⟨h1, h2, .inl h3, rfl, rfl, rfl, rfl, rfl, rfl⟩))⟩
      | true =>
        cases h4 : timeB (lo + a.off) with
        | false => exact ⟨_, _, _, _, _, _, .inr (.inr (.inl ⟨h1, h2, .inr ⟨h3, h4⟩, rfl, rfl, rfl, rfl, rfl, rfl⟩))⟩
        | true => exact ⟨_, _, _, _, _, _, .inr (.inr (.inr ⟨h1, h2, h3, h4, rfl, rfl, rfl, rfl, rfl, rfl⟩))⟩
theorem stell_nils (w : World) (p : Value) (lo : Int) (hp : ∃ x, p = .pointer x) : Calls Tryz.prog 11 #[.pointer none, p, .int .i64 lo] w fun e w' => e = .returned (.tuple #[.agg #[.int .i64 0, .int .i64 0, .int .i64 0, .int .u16 0, .int .i64 0], .int .i64 2]) ∧ Below w.heap.size w w' := by
  obtain ⟨x, rfl⟩ := hp
  have HK := Lib.hid (Ak.start w #[.int .i64 0, .int .i64 0, .int .i64 0, .int .u16 0, .int .i64 0])
  have hsp : splice ([.int .i64 0, .int .i64 0, .int .i64 0, .int .u16 0, .int .i64 0] : List Value) 0 ([.int .i64 0, .int .i64 0, .int .i64 0, .int .u16 0, .int .i64 0] : List Value) = [.int .i64 0, .int .i64 0, .int .i64 0, .int .u16 0, .int .i64 0] := splice_all _ _ rfl
  go_enter Tryz.func11, Tryz.ntmps11
  go_wp2_with (refine wpList_store_at rfl 44 (.tmp 6) (.tmp 14) rfl (w.heap.size) 0 [.int .i64 0, .int .i64 0, .int .i64 0, .int .u16 0, .int .i64 0] rfl rfl 44 [.int .i64 0, .int .i64 0, .int .i64 0, .int .u16 0, .int .i64 0] HK.out.res (by kernel_rfl) (Nat.le_refl 5) (one_ans _ _ _ _ _) ?_; rw [hsp]; replace HK := Lib.hid (HK.out.answer [.int .i64 0, .int .i64 0, .int .i64 0, .int .u16 0, .int .i64 0]))
  refine bodyPost_ret (results_row_tmp rfl _ _ (w.heap.size) 44 [.int .i64 0, .int .i64 0, .int .i64 0, .int .u16 0, .int .i64 0] _ _ rfl HK.out.res Tryz.underlying44 rfl (by kernel_rfl) rfl) rfl ?_
  exact ⟨rfl, HK.out.below⟩
theorem stell_nilf (w : World) (gs : Nat) (lo : Int) : Calls Tryz.prog 11 #[.pointer (some ⟨gs, 0, none⟩), .pointer none, .int .i64 lo] w fun e w' => e = .returned (.tuple #[.agg #[.int .i64 0, .int .i64 0, .int .i64 0, .int .u16 0, .int .i64 0], .int .i64 2]) ∧ Below w.heap.size w w' := by
  have HK := Lib.hid (Ak.start w #[.int .i64 0, .int .i64 0, .int .i64 0, .int .u16 0, .int .i64 0])
  have hsp : splice ([.int .i64 0, .int .i64 0, .int .i64 0, .int .u16 0, .int .i64 0] : List Value) 0 ([.int .i64 0, .int .i64 0, .int .i64 0, .int .u16 0, .int .i64 0] : List Value) = [.int .i64 0, .int .i64 0, .int .i64 0, .int .u16 0, .int .i64 0] := splice_all _ _ rfl
  go_enter Tryz.func11, Tryz.ntmps11
  go_wp2_with (refine wpList_store_at rfl 44 (.tmp 6) (.tmp 14) rfl (w.heap.size) 0 [.int .i64 0, .int .i64 0, .int .i64 0, .int .u16 0, .int .i64 0] rfl rfl 44 [.int .i64 0, .int .i64 0, .int .i64 0, .int .u16 0, .int .i64 0] HK.out.res (by kernel_rfl) (Nat.le_refl 5) (one_ans _ _ _ _ _) ?_; rw [hsp]; replace HK := Lib.hid (HK.out.answer [.int .i64 0, .int .i64 0, .int .i64 0, .int .u16 0, .int .i64 0]))
  refine bodyPost_ret (results_row_tmp rfl _ _ (w.heap.size) 44 [.int .i64 0, .int .i64 0, .int .i64 0, .int .u16 0, .int .i64 0] _ _ rfl HK.out.res Tryz.underlying44 rfl (by kernel_rfl) rfl) rfl ?_
  exact ⟨rfl, HK.out.below⟩
set_option maxHeartbeats 4000000 in
set_option maxRecDepth 100000 in
theorem stell_any (w : World) (B gf g b n gs : Nat) (f : FS) (a : AS) (h : Fo w B gf g b n f) (hS : Sq w gs a) (hI : FInv f) (hA : AInv a) (lo t hp r b' y v : Int) (ht : STime f a lo t hp r b' y v) :
    Calls Tryz.prog 11 #[.pointer (some ⟨gs, 0, none⟩), .pointer (some ⟨gf, 0, none⟩), .int .i64 lo] w fun e w' => e = .returned (.tuple #[.agg #[.int .i64 t, .int .i64 hp, .int .i64 r, .int .u16 b', .int .i64 y], .int .i64 v]) ∧ Below w.heap.size w w' := by
  have hb0 := below_alloc w (.cells #[.int .i64 0, .int .i64 0, .int .i64 0, .int .u16 0, .int .i64 0] 44)
  have hf1 := h.below hb0
  have hs1 := hS.below hb0 (Holds.lt hS)
  have hsy := synced_any _ B gf g b n f hf1
  have HF := Lib.hid hf1
  have HS := Lib.hid hs1
  have HK := Lib.hid (Ak.start w #[.int .i64 0, .int .i64 0, .int .i64 0, .int .u16 0, .int .i64 0])
  have hao := hA.off
  have hsp : splice ([.int .i64 0, .int .i64 0, .int .i64 0, .int .u16 0, .int .i64 0] : List Value) 0 ([.int .i64 0, .int .i64 0, .int .i64 0, .int .u16 0, .int .i64 0] : List Value) = [.int .i64 0, .int .i64 0, .int .i64 0, .int .u16 0, .int .i64 0] := splice_all _ _ rfl
  have hspx : splice ([.int .i64 0, .int .i64 0, .int .i64 0, .int .u16 0, .int .i64 0] : List Value) 0 ([.int .i64 t, .int .i64 hp, .int .i64 r, .int .u16 b', .int .i64 y] : List Value) = [.int .i64 t, .int .i64 hp, .int .i64 r, .int .u16 b', .int .i64 y] := splice_all _ _ rfl
  rcases ht with ⟨e1, t', hp', v', ht, hout⟩ | ⟨e1, e2, rfl, rfl, rfl, rfl, rfl, rfl⟩ | ⟨e1, e2, e3, rfl, rfl, rfl, rfl, rfl, rfl⟩ | ⟨e1, e2, e3, e4, rfl, rfl, rfl, rfl, rfl, rfl⟩
  · rw [e1] at hsy
    have HFl : Hid (∀ W, Fo W B gf g b n f → Calls Tryz.prog 27 #[.pointer (some ⟨gf, 0, none⟩), .int .i64 lo] W fun e w' => e = .returned (.tuple #[.agg #[.int .i64 t, .int .i64 hp, .int .i64 r, .int .u16 b', .int .i64 y], .int .i64 v]) ∧ Below W.heap.size W w') := Lib.hid fun W hw => by
      rcases hout with ⟨rfl, rfl, rfl, rfl, rfl, rfl, rfl⟩ | ⟨hv, rfl, rfl, rfl, rfl, rfl, rfl⟩
      · exact sfl_yes W B gf g b n f hw hI lo _ _ _ _ _ ht rfl rfl rfl
      · exact sfl_no W B gf g b n f hw hI lo _ _ _ ht hv
    clear h hS hI hA hf1 hs1 hb0 ht hout e1 hsp hao
    go_enter Tryz.func11, Tryz.ntmps11
    go_wp2_with (first
      | (go_at_call 26; refine hsy.mono ?_; rintro e w2 ⟨rfl, nq, rfl⟩; replace HK := Lib.hid (HK.out.drewN nq); have hfl := HFl.out _ (HF.out.drewN nq))
      | (go_at_call 27; refine hfl.mono ?_; rintro e w3 ⟨rfl, hb3⟩; replace HK := Lib.hid (HK.out.next hb3); clear hb3 hfl)
      | (refine wpList_store_at rfl 44 (.tmp 6) (.tmp 20) rfl (w.heap.size) 0 [.int .i64 t, .int .i64 hp, .int .i64 r, .int .u16 b', .int .i64 y] rfl rfl 44 [.int .i64 0, .int .i64 0, .int .i64 0, .int .u16 0, .int .i64 0] HK.out.res (by kernel_rfl) (Nat.le_refl 5) (one_ans _ _ _ _ _) ?_; rw [hspx]; replace HK := Lib.hid (HK.out.answer [.int .i64 t, .int .i64 hp, .int .i64 r, .int .u16 b', .int .i64 y])))
    refine bodyPost_ret (results_row_tmp rfl _ _ (w.heap.size) 44 [.int .i64 t, .int .i64 hp, .int .i64 r, .int .u16 b', .int .i64 y] _ _ rfl HK.out.res Tryz.underlying44 rfl (by kernel_rfl) rfl) rfl ?_
    exact ⟨rfl, HK.out.below⟩
  · rw [e1] at hsy
    have HFr := Lib.hid (fun W (hw : Sq W gs a) => sfresh_any W gs a hw)
    rw [e2] at HFr
    clear h hS hI hA hf1 hs1 hb0 e1 e2 hspx hao
    go_enter Tryz.func11, Tryz.ntmps11
    go_wp2_with (first
      | (go_at_call 26; refine hsy.mono ?_; rintro e w2 ⟨rfl, nq, rfl⟩; replace HK := Lib.hid (HK.out.drewN nq); have hfr := HFr.out _ (Holds.drewN HS.out nq))
      | (go_at_call 12; refine hfr.mono ?_; rintro e wx ⟨rfl, hwx⟩; subst wx)
      | (refine wpList_store_at rfl 44 (.tmp 6) (.tmp 25) rfl (w.heap.size) 0 [.int .i64 0, .int .i64 0, .int .i64 0, .int .u16 0, .int .i64 0] rfl rfl 44 [.int .i64 0, .int .i64 0, .int .i64 0, .int .u16 0, .int .i64 0] HK.out.res (by kernel_rfl) (Nat.le_refl 5) (one_ans _ _ _ _ _) ?_; rw [hsp]; replace HK := Lib.hid (HK.out.answer [.int .i64 0, .int .i64 0, .int .i64 0, .int .u16 0, .int .i64 0])))
    refine bodyPost_ret (results_row_tmp rfl _ _ (w.heap.size) 44 [.int .i64 0, .int .i64 0, .int .i64 0, .int .u16 0, .int .i64 0] _ _ rfl HK.out.res Tryz.underlying44 rfl (by kernel_rfl) rfl) rfl ?_
    exact ⟨rfl, HK.out.below⟩
  · rw [e1] at hsy
    have HFr := Lib.hid (fun W (hw : Sq W gs a) => sfresh_any W gs a hw)
    rw [e2] at HFr
    obtain ⟨a0, a1, a2, a3, a4, a5, a6⟩ := a
    have hat := fun W => sat_no W a1 a2 a3 a4 a5 a6 lo hao e3
    clear h hS hI hA hf1 hs1 hb0 e1 e2 e3 hao hspx
    go_enter Tryz.func11, Tryz.ntmps11
    go_wp2_with (first
      | (go_at_call 26; refine hsy.mono ?_; rintro e w2 ⟨rfl, nq, rfl⟩; replace HK := Lib.hid (HK.out.drewN nq); have hs2 := Holds.drewN HS.out nq; have hfr := HFr.out _ hs2; have z1 := Sq.c1 hs2; have z2 := Sq.c2 hs2; have z3 := Sq.c3 hs2; have z4 := Sq.c4 hs2; have z5 := Sq.c5 hs2; have z6 := Sq.c6 hs2; clear hs2; dsimp only at z1 z2 z3 z4 z5 z6)
      | (go_at_call 12; refine hfr.mono ?_; rintro e wx ⟨rfl, hwx⟩; subst wx)
      | (go_at_call 28; refine (hat _).mono ?_; rintro e w3 ⟨rfl, hb3⟩; replace HK := Lib.hid (HK.out.next hb3); clear hb3)
      | (refine wpList_store_at rfl 44 (.tmp 6) (.tmp 32) rfl (w.heap.size) 0 [.int .i64 0, .int .i64 0, .int .i64 0, .int .u16 0, .int .i64 0] rfl rfl 44 [.int .i64 0, .int .i64 0, .int .i64 0, .int .u16 0, .int .i64 0] HK.out.res (by kernel_rfl) (Nat.le_refl 5) (one_ans _ _ _ _ _) ?_; rw [hsp]; replace HK := Lib.hid (HK.out.answer [.int .i64 0, .int .i64 0, .int .i64 0, .int .u16 0, .int .i64 0])))
    refine bodyPost_ret (results_row_tmp rfl _ _ (w.heap.size) 44 [.int .i64 0, .int .i64 0, .int .i64 0, .int .u16 0, .int .i64 0] _ _ rfl HK.out.res Tryz.underlying44 rfl (by kernel_rfl) rfl) rfl ?_
    exact ⟨rfl, HK.out.below⟩
  · rw [e1] at hsy
    have HFr := Lib.hid (fun W (hw : Sq W gs a) => sfresh_any W gs a hw)
    rw [e2] at HFr
    obtain ⟨a0, a1, a2, a3, a4, a5, a6⟩ := a
    have hat := fun W => sat_yes W a1 a2 a3 a4 a5 a6 lo hao e3 e4
    clear h hS hI hA hf1 hs1 hb0 e1 e2 e3 hao hsp e4
    go_enter Tryz.func11, Tryz.ntmps11
    go_wp2_with (first
      | (go_at_call 26; refine hsy.mono ?_; rintro e w2 ⟨rfl, nq, rfl⟩; replace HK := Lib.hid (HK.out.drewN nq); have hs2 := Holds.drewN HS.out nq; have hfr := HFr.out _ hs2; have z1 := Sq.c1 hs2; have z2 := Sq.c2 hs2; have z3 := Sq.c3 hs2; have z4 := Sq.c4 hs2; have z5 := Sq.c5 hs2; have z6 := Sq.c6 hs2; clear hs2; dsimp only at z1 z2 z3 z4 z5 z6)
      | (go_at_call 12; refine hfr.mono ?_; rintro e wx ⟨rfl, hwx⟩; subst wx)
      | (go_at_call 28; refine (hat _).mono ?_; rintro e w3 ⟨rfl, hb3⟩; replace HK := Lib.hid (HK.out.next hb3); clear hb3)
      | (refine wpList_store_at rfl 44 (.tmp 6) (.tmp 32) rfl (w.heap.size) 0 [.int .i64 (lo + a2), .int .i64 a3, .int .i64 a4, .int .u16 a5, .int .i64 3] rfl rfl 44 [.int .i64 0, .int .i64 0, .int .i64 0, .int .u16 0, .int .i64 0] HK.out.res (by kernel_rfl) (Nat.le_refl 5) (one_ans _ _ _ _ _) ?_; rw [hspx]; replace HK := Lib.hid (HK.out.answer [.int .i64 (lo + a2), .int .i64 a3, .int .i64 a4, .int .u16 a5, .int .i64 3])))
    refine bodyPost_ret (results_row_tmp rfl _ _ (w.heap.size) 44 [.int .i64 (lo + a2), .int .i64 a3, .int .i64 a4, .int .u16 a5, .int .i64 3] _ _ rfl HK.out.res Tryz.underlying44 rfl (by kernel_rfl) rfl) rfl ?_
    exact ⟨rfl, HK.out.below⟩
end Go.Proofs.YtgmeakcfiaopcaaGreat
