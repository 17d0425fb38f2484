/- Frames, plainly: their kinds, their fields, their bytes; as values. -/
import Derived.Test.YtbdlpkkgfhknkaaOctA
namespace Go.Proofs.Ytbdlpkkgfhknkaa
open Go.RowKit

/-- A frame. -/
inductive Fr where
  | sync (a b c d e f : Int)
  | find (a b : Int)
  | want (a : Int)
  | pulse (a b c : Int)
  | reply (a b c d e f g h : Int)
  | anchor (a b c d e f : Int)
def Fr.kind : Fr → Int
  | .sync .. => 1
  | .find .. => 2
  | .want .. => 3
  | .pulse .. => 4
  | .reply .. => 5
  | .anchor .. => 6
/-- Its fields, in order: of what kind each is (1: a node, 2: steps, 3: a mark, 4: a time), and its number. -/
def Fr.fields : Fr → List (Int × Int)
  | .sync a b c d e f => [(1, a), (1, b), (3, c), (3, d), (2, e), (4, f)]
  | .find a b => [(1, a), (2, b)]
  | .want a => [(1, a)]
  | .pulse a b c => [(1, a), (1, b), (4, c)]
  | .reply a b c d e f g h => [(1, a), (1, b), (4, c), (4, d), (4, e), (1, f), (3, g), (2, h)]
  | .anchor a b c d e f => [(1, a), (3, b), (1, c), (3, d), (4, e), (4, f)]
def Fr.nums (f : Fr) : List Int := f.fields.map (·.2)
def Fr.val : Fr → Value
  | .sync a b c d e f => .iface 54 (.agg #[.int .i64 a, .int .i64 b, .int .u16 c, .int .u16 d, .int .i64 e, .int .i64 f])
  | .find a b => .iface 56 (.agg #[.int .i64 a, .int .i64 b])
  | .want a => .iface 51 (.agg #[.int .i64 a])
  | .pulse a b c => .iface 58 (.agg #[.int .i64 a, .int .i64 b, .int .i64 c])
  | .reply a b c d e f g h => .iface 60 (.agg #[.int .i64 a, .int .i64 b, .int .i64 c, .int .i64 d, .int .i64 e, .int .i64 f, .int .u16 g, .int .i64 h])
  | .anchor a b c d e f => .iface 62 (.agg #[.int .i64 a, .int .u16 b, .int .i64 c, .int .u16 d, .int .i64 e, .int .i64 f])
/-- Its numbers fit where they stand. -/
def Fr.wf (f : Fr) : Prop := ∀ x ∈ f.fields, if x.1 = 3 then F16 x.2 else Fits x.2

/-- How many bytes a field takes. -/
def sizeF (k : Int) : Nat := if k = 3 then 2 else if k = 4 then 8 else 1
/-- The greatest number that a field may be. -/
def mostF (k : Int) : Int := if k = 1 then 63 else if k = 2 then 63 else if k = 3 then 65535 else if k = 4 then 1125899906842624 else 6
def okF (x : Int × Int) : Bool := decide (0 ≤ x.2) && decide (x.2 ≤ mostF x.1)
def Fr.good (f : Fr) : Bool := f.fields.all okF
def bytesF (l : List (Int × Int)) : List Int := l.flatMap fun x => putB (sizeF x.1) x.2
/-- Its bytes, without their sum. -/
def Fr.bytes (f : Fr) : List Int := f.kind :: bytesF f.fields
def lenF (l : List Int) : Nat := (l.map sizeF).sum
/-- The numbers in bytes, field by field. -/
def numsF : List Int → List Int → List Int
  | [], _ => []
  | k :: ks, zs => getB (zs.take (sizeF k)) :: numsF ks (zs.drop (sizeF k))
/-- What is asked of a frame, its kind first. -/
def Fr.asks (f : Fr) : List (Int × Int) := (0, f.kind) :: f.fields
/-- The kinds of fields of a kind of frame. -/
def whats (k : Int) : List Int := if k = 1 then [1, 1, 3, 3, 2, 4] else if k = 2 then [1, 2] else if k = 3 then [1] else if k = 4 then [1, 1, 4] else if k = 5 then [1, 1, 4, 4, 4, 1, 3, 2] else if k = 6 then [1, 3, 1, 3, 4, 4] else []
theorem Fr.fields_whats (f : Fr) : f.fields.map (·.1) = whats f.kind := by cases f <;> rfl
/-- The frame of a kind with these numbers. -/
def Fr.of (k : Int) (l : List Int) : Fr :=
  if k = 1 then .sync (l.getD 0 0) (l.getD 1 0) (l.getD 2 0) (l.getD 3 0) (l.getD 4 0) (l.getD 5 0) else if k = 2 then .find (l.getD 0 0) (l.getD 1 0) else if k = 3 then .want (l.getD 0 0)
  else if k = 4 then .pulse (l.getD 0 0) (l.getD 1 0) (l.getD 2 0) else if k = 5 then .reply (l.getD 0 0) (l.getD 1 0) (l.getD 2 0) (l.getD 3 0) (l.getD 4 0) (l.getD 5 0) (l.getD 6 0) (l.getD 7 0)
  else .anchor (l.getD 0 0) (l.getD 1 0) (l.getD 2 0) (l.getD 3 0) (l.getD 4 0) (l.getD 5 0)
theorem Fr.of_self (f : Fr) : Fr.of f.kind f.nums = f := by cases f <;> rfl
theorem Fr.kind_range (f : Fr) : 1 ≤ f.kind ∧ f.kind ≤ 6 := by cases f <;> simp [Fr.kind]
theorem kind_cases {k : Int} (h1 : 1 ≤ k) (h2 : k ≤ 6) : k = 1 ∨ k = 2 ∨ k = 3 ∨ k = 4 ∨ k = 5 ∨ k = 6 := by omega
theorem Fr.of_kind {k : Int} (h1 : 1 ≤ k) (h2 : k ≤ 6) (l : List Int) : (Fr.of k l).kind = k := by
  rcases kind_cases h1 h2 with rfl | rfl | rfl | rfl | rfl | rfl <;> rfl
theorem Fr.of_nums {k : Int} (h1 : 1 ≤ k) (h2 : k ≤ 6) (l : List Int) (hl : l.length = (whats k).length) : (Fr.of k l).nums = l := by
  rcases kind_cases h1 h2 with rfl | rfl | rfl | rfl | rfl | rfl
  · match l, hl with | [_, _, _, _, _, _], _ => rfl
  · match l, hl with | [_, _], _ => rfl
  · match l, hl with | [_], _ => rfl
  · match l, hl with | [_, _, _], _ => rfl
  · match l, hl with | [_, _, _, _, _, _, _, _], _ => rfl
  · match l, hl with | [_, _, _, _, _, _], _ => rfl
theorem nums_length (ks zs : List Int) : (numsF ks zs).length = ks.length := by
  induction ks generalizing zs with
  | nil => rfl
  | cons k ks ih => simp [numsF, ih]
theorem size_le (k : Int) : 1 ≤ sizeF k ∧ sizeF k ≤ 8 := by unfold sizeF; split <;> (try split) <;> omega
theorem bytes_length (l : List (Int × Int)) : (bytesF l).length = lenF (l.map (·.1)) := by
  induction l with
  | nil => rfl
  | cons x l ih => simp [bytesF, lenF, put_length] at ih ⊢; omega
theorem bytes_wf (l : List (Int × Int)) : ∀ z ∈ bytesF l, (Lit.int .u8 z).wf = true := by
  intro z hz
  obtain ⟨x, _, hx⟩ := List.mem_flatMap.1 hz
  exact put_wf _ _ z hx
theorem Fr.bytes_wf (f : Fr) : ∀ z ∈ f.bytes, (Lit.int .u8 z).wf = true := by
  intro z hz
  rcases List.mem_cons.1 hz with rfl | hz
  · have := f.kind_range
    exact WalkArith.wf_u8 (by omega)
  · exact Go.Proofs.Ytbdlpkkgfhknkaa.bytes_wf _ z hz
theorem lenF_le (k : Int) : lenF (whats k) ≤ 61 := by
  unfold whats
  repeat' split
  all_goals decide
theorem Fr.bytes_length (f : Fr) : f.bytes.length = lenF (whats f.kind) + 1 := by
  rw [Fr.bytes, List.length_cons, Go.Proofs.Ytbdlpkkgfhknkaa.bytes_length, f.fields_whats]
/-- Two frames of one kind, field by field: what is asked of one, and the other's numbers. -/
theorem Fr.ext_nums {f g : Fr} (hk : f.kind = g.kind) (hn : f.nums = g.nums) : f = g := by rw [← f.of_self, ← g.of_self, hk, hn]

/-- The byte numbers of fields that can be are read as they were. -/
theorem nums_bytes (l : List (Int × Int)) (h : l.all okF = true) (hk : ∀ x ∈ l, 1 ≤ x.1 ∧ x.1 ≤ 4) : numsF (l.map (·.1)) (bytesF l) = l.map (·.2) := by
  induction l with
  | nil => rfl
  | cons x l ih =>
    obtain ⟨k, n⟩ := x
    simp only [List.all_cons, Bool.and_eq_true] at h
    obtain ⟨hx, hl⟩ := h
    have hk0 := hk (k, n) (List.mem_cons_self ..)
    have e : bytesF ((k, n) :: l) = putB (sizeF k) n ++ bytesF l := rfl
    simp only [List.map_cons, numsF, e]
    have hp := put_length (sizeF k) n
    rw [List.take_left' hp, List.drop_left' hp, ih hl (fun y hy => hk y (List.mem_cons_of_mem _ hy)), get_put]
    simp only [okF, Bool.and_eq_true, decide_eq_true_eq] at hx
    congr 1
    have hk' : k = 1 ∨ k = 2 ∨ k = 3 ∨ k = 4 := by
      have h1 : 1 ≤ k := hk0.1
      have h2 : k ≤ 4 := hk0.2
      omega
    obtain ⟨h1, h2⟩ := hx
    rcases hk' with rfl | rfl | rfl | rfl <;> simp [mostF, sizeF] at h1 h2 ⊢ <;> omega
theorem Fr.fields_range (f : Fr) : ∀ x ∈ f.fields, 1 ≤ x.1 ∧ x.1 ≤ 4 := by cases f <;> simp [Fr.fields]
/-- A number in so many bytes is put as these bytes. -/
theorem put_get (zs : List Int) (h : ∀ z ∈ zs, F8 z) : putB zs.length (getB zs) = zs := by
  induction zs with
  | nil => rfl
  | cons z zs ih =>
    obtain ⟨z1, z2⟩ := h z (List.mem_cons_self ..)
    have hr := ih fun x hx => h x (List.mem_cons_of_mem _ hx)
    obtain ⟨g1, g2⟩ := get_le zs fun x hx => h x (List.mem_cons_of_mem _ hx)
    have hp : (0 : Int) < 256 ^ zs.length := Int.pow_pos (by omega)
    rw [List.length_cons, putB, get_cons]
    have e1 : (z * 256 ^ zs.length + getB zs) / 256 ^ zs.length = z := by
      rw [Int.add_comm, Int.add_mul_ediv_right _ _ (by omega), Int.ediv_eq_zero_of_lt g1 g2]
      omega
    have e2 : ∀ (k : Nat) (n m : Int), k ≤ zs.length → putB k (n * 256 ^ zs.length + m) = putB k m := by
      intro k n m hk
      induction k with
      | zero => rfl
      | succ k ihk =>
        rw [putB, putB, ihk (by omega)]
        congr 1
        have hq : (256 : Int) ^ zs.length = 256 ^ k * (256 * 256 ^ (zs.length - k - 1)) := by
          rw [← Int.pow_succ', ← Int.pow_add]
          congr 1
          omega
        have hk0 : (0 : Int) < 256 ^ k := Int.pow_pos (by omega)
        rw [hq, show n * (256 ^ k * (256 * 256 ^ (zs.length - k - 1))) + m = m + 256 ^ k * (256 * (n * 256 ^ (zs.length - k - 1))) by grind, Int.add_mul_ediv_left _ _ (by omega)]
        omega
    rw [e1, e2 _ _ _ (Nat.le_refl _), hr, Int.emod_eq_of_lt z1 (by omega)]
/-- What was read, field by field, is put as these bytes. -/
theorem bytes_nums (ks zs : List Int) (h : ∀ z ∈ zs, F8 z) (hl : zs.length = lenF ks) : bytesF (ks.zip (numsF ks zs)) = zs := by
  induction ks generalizing zs with
  | nil =>
    have : zs = [] := List.eq_nil_of_length_eq_zero (by simpa [lenF] using hl)
    rw [this]
    rfl
  | cons k ks ih =>
    have e : lenF (k :: ks) = sizeF k + lenF ks := by simp [lenF]
    have ht : (zs.take (sizeF k)).length = sizeF k := by rw [List.length_take]; omega
    have h1 := put_get (zs.take (sizeF k)) fun z hz => h z (List.mem_of_mem_take hz)
    have h2 := ih (zs.drop (sizeF k)) (fun z hz => h z (List.mem_of_mem_drop hz)) (by rw [List.length_drop]; omega)
    rw [ht] at h1
    show putB (sizeF k) (getB (zs.take (sizeF k))) ++ bytesF (ks.zip (numsF ks (zs.drop (sizeF k)))) = zs
    rw [h1, h2, List.take_append_drop]
end Go.Proofs.Ytbdlpkkgfhknkaa
